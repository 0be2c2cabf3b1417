import Derived.Test.YtjobgpahajhbnabGreatDoorGg
import Derived.Test.YtjobgpahajhbnabGreatDoorTe
import Derived.Test.YtjobgpahajhbnabGreatDoorHb
import Derived.Test.YtjobgpahajhbnabGreatDoorKf
import Derived.Test.YtjobgpahajhbnabGreatDoorCe
import Derived.Test.YtjobgpahajhbnabGreatDoorCg
import Derived.Test.YtjobgpahajhbnabGreatDoorTr
namespace Go.Proofs.YtjobgpahajhbnabGreatDoor
open Go.RowKit Go.Proofs Go.Maps
attribute [local go_sem ↓] Go.wp_at_zero Go.wp_at_succ
theorem Tryz.enters104 : Enters Tryz.prog 104 := Go.Proofs.enters_of Tryz.func104 (by decide) rfl
def Y8 (a : Arr) : Arr × Int := (⟨[(a.shape.map Int.ofNat).length], a.shape.map Int.ofNat⟩, 0)
set_option maxHeartbeats 2000000 in
set_option maxRecDepth 20000 in
theorem Jee (w : World) : FnOne 104 #[] w Y8 := by
  intro W P v a _ hP ha hoa
  have ha0 := ha
  obtain ⟨so, sn, sc, co, cn, cc, rfl, ha1, _⟩ := ha
  have hsn := (Jc ha0).2
  show Calls Tryz.prog 104 #[.agg #[.slice so sn sc, .slice co cn cc]] W _
  have hst : Bx W ((W.alloc (.cells #[.slice so sn sc, .slice co cn cc] 57)).alloc (.cells #[.slice none 0 0, .slice none 0 0] 57)) [[.slice so sn sc, .slice co cn cc], [.slice none 0 0, .slice none 0 0]] := ((Bx.nil W).alloc (by simp) [.slice so sn sc, .slice co cn cc] 57).alloc (by simp) [.slice none 0 0, .slice none 0 0] 57
  have HN := hide (ha1.below hst.below)
  have HST := hide hst
  have HP := hide hP
  have h4 : a.shape.length ≤ 4 := by have := hoa.rank; omega
  have hlen : (a.shape.map Int.ofNat).length = sn := by rw [hsn]; simp
  obtain ⟨xs, hxs⟩ : ∃ xs, a.shape.map Int.ofNat = xs := ⟨_, rfl⟩
  rw [hxs] at HN hlen
  have hsn4 : sn ≤ 4 := by omega
  have HR : Hid (Y8 a = (⟨[xs.length], xs⟩, 0)) := hide (by unfold Y8; rw [hxs])
  have HL := hide hlen
  clear ha0 ha1 hst hP hoa hsn h4 hxs hlen
  go_enter Tryz.func104, Tryz.ntmps104
  go_wp2_with fail
  obtain ⟨wS, hwS⟩ : ∃ wS, (W.alloc (.cells #[.slice so sn sc, .slice co cn cc] 57)).alloc (.cells #[.slice none 0 0, .slice none 0 0] 57) = wS := ⟨_, rfl⟩
  rw [hwS] at HST HN ⊢
  clear hwS
  go_loopw [4, 10] (fun v4 v10 wr => ∃ i : Nat, v10 = .int .i64 i ∧ i ≤ sn ∧ OwnL wS.heap.size wr v4 (xs.take i) ∧ Below wS.heap.size wS wr) (fun _ v10 _ => sn - (intOf v10).toNat)
  case atStart => exact ⟨0, rfl, by omega, by simpa using OwnL.nil _ _, Below.refl _ _⟩
  case round =>
    obtain ⟨i, rfl, hi, ho, hb⟩ := hrel
    have HO := hide ho
    have HB := hide hb
    by_cases hin : i < sn
    · have hil : i < xs.length := by rw [Ja HL]; exact hin
      obtain ⟨-, -, hA⟩ := J1 (Ja HN)
      obtain ⟨sb, sf, rfl, hsb, hc⟩ := hA (by omega)
      have c0 := (hb.cell (p := ⟨sb, sf + i, none⟩) hsb).trans (hc i hil)
      obtain ⟨x, hx⟩ : ∃ x, xs[i] = x := ⟨_, rfl⟩
      rw [hx] at c0
      have HT : Hid (xs.take (i + 1) = xs.take i ++ [x]) := hide (by rw [← hx, List.take_succ_eq_append_getElem hil])
      have i0 : (0 : Int) ≤ (i : Int) := by omega
      have i1 : (i : Int) < (sn : Int) := by omega
      have hk : (xs.take i).length ≤ 10 := by simp; omega
      have HK := hide hk
      clear ho hb hA hc hx hk
      go_wp2_with (at_builtin; refine Ja4 rfl _ _ rfl (Ja HO) (by have := Ja HK; omega) (Ja HB).size x rfl rfl ?_)
      intro v' w4 ho4 hg4
      have HO4 := hide ho4
      have HB4 := hide ((Ja HB).trans (hg4.bel.mono (Nat.le_refl _)))
      clear ho4 hg4
      go_wp2_with fail
      go_roundw
      case rel => exact ⟨i + 1, by go_num, by omega, by rw [Ja HT]; exact Ja HO4, Ja HB4⟩
      case measure => simp [intOf]; omega
    · have hie : i = sn := by omega
      have hT : xs.take i = xs := List.take_of_length_le (by rw [Ja HL]; omega)
      rw [hT] at ho HO
      have i1 : ¬ (i : Int) < (sn : Int) := by omega
      obtain ⟨vo, vc, rfl⟩ := ho.shape
      rename World => wr
      have HX := hide ((Ja HST).next hb)
      have hlt := (Ja HST).lt
      simp at hlt
      have HRow := hide (Zp (OffB W.heap.size 2 P) wr (fun b h => OffB.new (Ja HP) (by have := hb.size; omega)) (.slice vo xs.length vc) xs (ho.nums.imp (fun b h _ => OffB.new (Ja HP) (by omega))))
      clear ho hb hT hie hlt
      go_wp2_with fail
      refine (Ja HRow).mono ?_
      rintro e w2 ⟨s1, s2, s3, c1, c2, c3, rfl, hA2, hb2⟩
      have HX2 := hide ((Ja HX).next hb2)
      have HA2 := hide hA2
      clear hA2 hb2 HX HRow
      have r0 : w2.cell? ⟨W.heap.size + 1, 0, none⟩ = some (.slice none 0 0) := ((Ja HX2).cell 1 0 _ rfl).1
      have r1 : w2.cell? ⟨W.heap.size + 1, 1, none⟩ = some (.slice none 0 0) := ((Ja HX2).cell 1 1 _ rfl).1
      have g0 : w2.frozen? ⟨W.heap.size + 1, 0, none⟩ = false := ((Ja HX2).cell 1 0 _ rfl).2
      have g1 : w2.frozen? ⟨W.heap.size + 1, 1, none⟩ = false := ((Ja HX2).cell 1 1 _ rfl).2
      go_wp2_with fail
      have hf2 := Yd (q := 1) (u0 := .slice s1 s2 s3) (u1 := .slice c1 c2 c3) (Ja HX2).below (by decide) (Ja HA2)
      exact bodyPost_ret (v := .tuple #[.agg #[.slice s1 s2 s3, .slice c1 c2 c3], .int .i64 0]) (by simp [results, Tryz.results104, go_sem, r0, r1]) rfl ⟨_, _, _, _, _, _, by rw [Ja HR], by rw [Ja HR]; exact hf2.1, hf2.2⟩
theorem Jbv : OneC ⟨#[114, 104, 111]⟩ Y8 := ⟨fun w => (Za (t := ⟨#[114, 104, 111]⟩) (k1 := .string [104, 111]) (k2 := .string [114, 104, 111]) (f := 104) (by decide) (by kernel_rfl) (by kernel_rfl) (by kernel_rfl) (by kernel_rfl) w).mono (by rintro e w' ⟨rfl, hb⟩; exact ⟨104, #[], rfl, Tryz.enters104, hb, Jee w'⟩), fun a ha => by
  have := ha.rank
  exact ⟨by simp [Y8]; omega, fun _ => ⟨by simp [Y8], by simp [Y8]; omega, by simp [Y8, Jj], by simp [Y8]; omega, fun c hc => by
    simp only [Y8, List.mem_map] at hc
    obtain ⟨n, hn, rfl⟩ := hc
    have := ha.lens n hn
    unfold Jg
    constructor <;> simp <;> omega⟩⟩⟩
end Go.Proofs.YtjobgpahajhbnabGreatDoor
namespace Go.Proofs
open Go.Shelf
def Tryz.rev238_ren : Go.Shelf.Ren := ⟨fun | 35 => 161 | n => n, fun | 22 => 31 | 23 => 3 | 3 => 3 | 4 => 4 | 0 => 0 | n => n, fun | n => n⟩
theorem Tryz.rev238 : Go.Proofs.SlLaysE.n35 Tryz.prog Tryz.rev238_ren := {
  mixed := by kernel_rfl
  f35 := ⟨Tryz.f161.name, by decide, Tryz.func161.trans (congrArg some (by kernel_rfl))⟩
  t0 := Tryz.underlying0
  a0 := Tryz.isAgg0
  z0 := Tryz.sizeOf0
  v0 := Tryz.zeroValue0
  t3 := Tryz.underlying3
  a3 := Tryz.isAgg3
  z3 := Tryz.sizeOf3
  v3 := Tryz.zeroValue3
  t4 := Tryz.underlying4
  a4 := Tryz.isAgg4
  z4 := Tryz.sizeOf4
  v4 := Tryz.zeroValue4
  t22 := Tryz.underlying31
  a22 := Tryz.isAgg31
  z22 := Tryz.sizeOf31
  v22 := Tryz.zeroValue31
  a23 := Tryz.isAgg3
  z23 := Tryz.sizeOf3 }
end Go.Proofs
namespace Go.Proofs.YtjobgpahajhbnabGreatDoor
open Go.RowKit Go.Proofs Go.Shelf
theorem No (W : World) (g : Nat) (L : List Int) (h : RowAt W g L) (p : Nat × Nat) (hp : p.1 + p.2 ≤ L.length) (hl : L.length ≤ 1000) (cp : Nat) :
    Calls Tryz.prog 161 #[.slice (some ⟨g, p.1, none⟩) p.2 cp] W fun e W' => e = .returned (.tuple #[]) ∧ RowAt W' g (Z8 L p) ∧ OnlyB g W W' := by
  obtain ⟨zs, hzs⟩ : ∃ zs, (L.drop p.1).take p.2 = zs := ⟨_, rfl⟩
  have hzl : zs.length = p.2 := by rw [← hzs]; simp; omega
  have hH : Go.Sort.Holds (Value.int .i64) W g p.1 zs.toArray := by
    intro j hj
    have hj' : j < p.2 := by rw [← hzl]; simpa using hj
    have hz : zs.toArray[j]! = L[p.1 + j]'(by omega) := by
      rw [getElem!_pos _ j hj]
      subst hzs
      simp
    rw [hz]
    exact h (p.1 + j) (by omega)
  have := AnyE.slices_Reverse Tryz.rev238 (Value.int .i64) (fun _ => rfl) g p.1 cp zs W hH (by omega)
  rw [hzl] at this
  refine this.mono ?_
  rintro e W' ⟨rfl, n, rfl⟩
  refine ⟨rfl, ?_, Nz W n g p.1 _⟩
  have hHa : Go.Sort.Holds (Value.int .i64) (Go.Sort.ahead W n) g p.1 zs.toArray := hH
  intro j hj
  rw [Zq hp] at hj
  refine ⟨?_, by rw [Go.Sort.frozen?_putRow]; exact (h j hj).2⟩
  have hL : (Z8 L p)[j]? = some ((Z8 L p)[j]'(by rw [Zq hp]; exact hj)) := List.getElem?_eq_getElem _
  generalize hv : (Z8 L p)[j]'(by rw [Zq hp]; exact hj) = v at hL ⊢
  unfold Z8 at hL
  rw [hzs] at hL
  by_cases h1 : j < p.1
  · rw [Go.Sort.cell?_putRow_other _ _ _ _ _ _ (Or.inr (Or.inl h1))]
    rw [List.getElem?_append_left (by simp; omega), List.getElem?_take, if_pos h1, List.getElem?_eq_getElem hj] at hL
    rw [← Option.some.inj hL]
    exact (h j hj).1
  · rw [List.getElem?_append_right (by simp; omega), List.length_take, Nat.min_eq_left (by omega)] at hL
    by_cases h2 : j < p.1 + p.2
    · rw [List.getElem?_append_left (by simp; omega)] at hL
      have hc := Go.Sort.cell?_putRow (Value.int .i64) (Go.Sort.ahead W n) g p.1 zs.toArray zs.reverse.toArray hHa (by simp) (j - p.1) (by simp; omega)
      rw [show p.1 + (j - p.1) = j by omega] at hc
      rw [hc, getElem!_pos _ _ (by simp; omega)]
      obtain ⟨hb, hL⟩ := List.getElem?_eq_some_iff.1 hL
      rw [← hL]
      simp
    · rw [Go.Sort.cell?_putRow_other _ _ _ _ _ _ (Or.inr (Or.inr (by simp; omega)))]
      rw [List.getElem?_append_right (by simp; omega), List.getElem?_drop, List.length_reverse, hzl, show p.1 + p.2 + (j - p.1 - p.2) = j by omega, List.getElem?_eq_getElem hj] at hL
      rw [← Option.some.inj hL]
      exact (h j hj).1
def fpl : List Nat → Nat → Nat → Nat
  | [], s, _ => s
  | n :: r, s, p => fpl r (s * n + p % n) (p / n)
theorem Kb (n : Nat) (r : List Nat) : Jj (n :: r) = n * Jj r := by
  have := Jp [n] r
  rwa [Ym, List.singleton_append] at this
theorem Fo : ∀ {r : List Nat}, 0 < Jj r → ∀ n ∈ r, 0 < n
  | [], _, n, hn => by cases hn
  | m :: r, h, n, hn => by
    rw [Kb] at h
    rcases List.mem_cons.1 hn with e | e
    · subst e; exact Nat.pos_of_mul_pos_right h
    · exact Fo (Nat.pos_of_mul_pos_left h) n e
theorem Jcp : ∀ {r : List Nat}, (∀ n ∈ r, 0 < n) → 0 < Jj r
  | [], _ => by decide
  | m :: r, h => by
    rw [Kb]
    exact Nat.mul_pos (h m (by simp)) (Jcp (fun n hn => h n (by simp [hn])))
theorem Jlo {s S n q : Nat} (hs : s < S) (hn : 0 < n) : s * n + q % n < S * n := by
  have h1 : (s + 1) * n ≤ S * n := Nat.mul_le_mul_right n hs
  have h2 := Nat.mod_lt q hn
  rw [Nat.add_mul] at h1
  omega
theorem Jlj : ∀ (r : List Nat) (s p S : Nat), (∀ n ∈ r, 0 < n) → s < S → fpl r s p < S * Jj r
  | [], s, p, S, _, hs => by simpa [fpl, Jj] using hs
  | n :: r, s, p, S, h, hs => by
    rw [fpl, Kb, ← Nat.mul_assoc]
    exact Jlj r _ _ _ (fun m hm => h m (by simp [hm])) (Jlo hs (h n (by simp)))
def Jel (a : Arr) : List Int := (List.range a.cells.length).map fun i => a.cells.getD (fpl a.shape 0 i) 0
def Xy (a : Arr) : Arr × Int := (⟨a.shape.reverse, Jel a⟩, 0)
theorem Xz (a : Arr) : (Jel a).length = a.cells.length := by simp [Jel]
theorem Nr : ∀ r : List Nat, Jj r.reverse = Jj r
  | [] => rfl
  | n :: r => by rw [List.reverse_cons, Jp, Ym, Nr r, Kb, Nat.mul_comm]
theorem Jc4 {a : Arr} (h : a.ok) : (Xy a).1.ok := by
  refine ⟨by simp [Xy]; exact h.rank, fun n hn => h.lens n (by simpa [Xy] using hn), by simp only [Xy]; rw [Xz, Nr]; exact h.size, by simp only [Xy]; rw [Xz]; exact h.few, ?_⟩
  intro c hc
  simp only [Xy, Jel, List.mem_map] at hc
  obtain ⟨i, _, rfl⟩ := hc
  rw [List.getD_eq_getElem?_getD]
  cases hg : a.cells[fpl a.shape 0 i]? with
  | none => simp [Jg]
  | some v => exact h.fits v (List.mem_of_getElem? hg)
section
attribute [local go_sem ↓] Go.wp_at_zero Go.wp_at_succ
set_option maxHeartbeats 2000000 in
set_option maxRecDepth 20000 in
theorem Jge {P : Nat → Prop} (W : World) (so : Option Addr) (sn sc : Nat) (co : Option Addr) (cn cc : Nat) (a : Arr) (ha : IsArr P W (.agg #[.slice so sn sc, .slice co cn cc]) a) (hok : a.ok) (p : Nat) (hp : p < a.cells.length) :
    Calls Tryz.prog 162 #[.agg #[.slice so sn sc, .slice co cn cc], .int .i64 p] W fun e W' => e = .returned (.int .i64 (fpl a.shape 0 p)) ∧ Below W.heap.size W W' := by
  have hsn := (Jc ha).2
  have hfew := hok.few
  have htot : Jj a.shape ≤ 200 := by rw [← hok.size]; exact hfew
  have hpos : ∀ n ∈ a.shape, 0 < n := Fo (by rw [← hok.size]; omega)
  have hp200 : p ≤ 200 := by omega
  have hsn3 : sn ≤ 3 := by have := hok.rank; omega
  have hb1 : Below W.heap.size W (W.alloc (.cells #[.slice so sn sc, .slice co cn cc] 57)) := (Below.refl _ _).alloc (Nat.le_refl _) _
  have hb0 : (W.alloc (.cells #[.slice so sn sc, .slice co cn cc] 57)).cell? ⟨W.heap.size, 0, none⟩ = some (.slice so sn sc) := (World.cell?_alloc_at _ _ _ _ rfl).trans rfl
  have h1 : Nums P (W.alloc (.cells #[.slice so sn sc, .slice co cn cc] 57)) (.slice so sn sc) (a.shape.map Int.ofNat) := by
    obtain ⟨_, _, _, _, _, _, hv, h1, _⟩ := ha.below hb1
    injection hv with hv
    simp at hv
    obtain ⟨⟨rfl, rfl, rfl⟩, _⟩ := hv
    exact h1
  have HN := hide h1
  have HB1 := hide hb1
  have HSN := hide hsn
  have HPos := hide hpos
  have HTot := hide htot
  clear hb0 h1 ha hok hp hsn hfew hpos hb1 htot
  obtain ⟨sh, hsh⟩ : ∃ sh, a.shape = sh := ⟨_, rfl⟩
  rw [hsh] at HN HSN HPos HTot ⊢
  clear hsh
  obtain ⟨R, hR⟩ : ∃ R, fpl sh 0 p = R := ⟨_, rfl⟩
  rw [hR]
  have HR := hide hR
  clear hR
  go_enter Tryz.func162, Tryz.ntmps162
  go_wp2_with fail
  obtain ⟨W1, hW1⟩ : ∃ W1, W.alloc (.cells #[.slice so sn sc, .slice co cn cc] 57) = W1 := ⟨_, rfl⟩
  rw [hW1] at HN HB1 ⊢
  clear hW1
  go_loopw [1, 5, 11] (fun v1 v5 v11 wr => ∃ i q s : Nat, v1 = .int .i64 q ∧ v5 = .int .i64 s ∧ v11 = .int .i64 i ∧ i ≤ sn ∧ q ≤ 200 ∧ s ≤ 200 ∧ Hid (fpl (sh.drop i) s q = R ∧ ∃ S, s < S ∧ S * Jj (sh.drop i) = Jj sh) ∧ wr = W1) (fun _ _ v11 _ => sn - (intOf v11).toNat)
  case atStart => exact ⟨0, p, 0, rfl, rfl, rfl, by omega, hp200, by omega, hide ⟨by simpa using Ja HR, 1, by omega, by simp⟩, rfl⟩
  case round =>
    obtain ⟨i, q, s, rfl, rfl, rfl, hi, hq, hs, HV, hwr⟩ := hrel
    have hwr' := hwr.symm
    subst hwr'
    clear hwr
    by_cases hin : i < sn
    · have hil : i < sh.length := by rw [← Ja HSN]; exact hin
      obtain ⟨-, -, hA⟩ := J1 (Ja HN)
      obtain ⟨sb, sf, rfl, hsb, hc⟩ := hA (by simp; omega)
      have c0 := hc i (by simpa using hil)
      rw [List.getElem_map] at c0
      have hmem := List.getElem_mem hil
      have hdr : sh.drop i = sh[i] :: sh.drop (i + 1) := List.drop_eq_getElem_cons hil
      obtain ⟨n, hn⟩ : ∃ n, sh[i] = n := ⟨_, rfl⟩
      rw [hn] at c0 hmem hdr
      have c0 : W1.cell? ⟨sb, sf + i, none⟩ = some (.int .i64 (n : Int)) := c0
      have hn0 := Ja HPos n hmem
      obtain ⟨v1, S, v2, v3⟩ := Ja HV
      rw [hdr, fpl] at v1
      rw [hdr, Kb, ← Nat.mul_assoc] at v3
      have hlt := Jlo (q := q) v2 hn0
      have hpp : 0 < Jj (sh.drop (i + 1)) := Jcp (fun m hm => Ja HPos m (List.mem_of_mem_drop hm))
      have hSn : S * n ≤ 200 := Nat.le_trans (Nat.le_mul_of_pos_right _ hpp) (by rw [v3]; exact Ja HTot)
      obtain ⟨m, hm⟩ : ∃ m, q % n = m := ⟨_, rfl⟩
      obtain ⟨d, hd⟩ : ∃ d, q / n = d := ⟨_, rfl⟩
      obtain ⟨u, hu⟩ : ∃ u, s * n = u := ⟨_, rfl⟩
      rw [hm, hu] at v1 hlt
      rw [hd] at v1
      have hdq : d ≤ 200 := by rw [← hd]; exact Nat.le_trans (Nat.div_le_self _ _) hq
      have hm1 : (q : Int).tmod (n : Int) = (m : Int) := by rw [← hm]; exact (Int.ofNat_tmod q n).symm
      have hm2 : (q : Int) % (n : Int) = (m : Int) := by rw [← hm]; simp
      have hd1 : (q : Int).tdiv (n : Int) = (d : Int) := by rw [← hd]; exact (Int.ofNat_tdiv q n).symm
      have hd2 : (q : Int) / (n : Int) = (d : Int) := by rw [← hd]; simp
      have hw1 : IntKind.i64.wrap ((s : Int) * (n : Int)) = (u : Int) := by
        rw [← Int.natCast_mul, hu]
        exact Jd (by omega) (by omega)
      have hw3 : IntKind.i64.wrap ((u : Int) + (m : Int)) = ((u + m : Nat) : Int) := by
        rw [← Int.natCast_add]
        exact Jd (by omega) (by omega)
      have hw4 : IntKind.i64.wrap (d : Int) = (d : Int) := Jd (by omega) (by omega)
      have z0 : ((n : Int) == 0) = false := beq_false_of_ne (by omega)
      have z1 : ¬ (n : Int) = 0 := by omega
      have z2 : ¬ n = 0 := by omega
      have i0 : (0 : Int) ≤ (i : Int) := by omega
      have i1 : (i : Int) < (sn : Int) := by omega
      have HV2 : Hid (fpl (sh.drop (i + 1)) (u + m) d = R ∧ ∃ S, u + m < S ∧ S * Jj (sh.drop (i + 1)) = Jj sh) := hide ⟨v1, S * n, hlt, v3⟩
      have hum : u + m ≤ 200 := by omega
      clear hA hc hmem hdr hn hn0 v1 v2 v3 hlt hpp hSn hm hd hu HV hil
      go_wp2_with fail
      go_roundw
      case rel => exact ⟨i + 1, d, u + m, by first | rfl | go_num, by first | rfl | go_num, by go_num, by omega, hdq, hum, HV2, by first | rfl | trivial⟩
      case measure => simp [intOf]; omega
    · have hie : i = sh.length := by have := Ja HSN; omega
      have hr : s = R := by
        have := (Ja HV).1
        rw [hie, List.drop_length, fpl] at this
        exact this
      subst hr
      have i1 : ¬ (i : Int) < (sn : Int) := by omega
      clear hie HV HR
      go_wp2_with fail
      exact bodyPost_ret (v := .int .i64 s) (by simp [results, Tryz.results162, go_sem]) rfl ⟨rfl, Ja HB1⟩
end
end Go.Proofs.YtjobgpahajhbnabGreatDoor
namespace Go.Proofs.YtjobgpahajhbnabGreatDoor
open Go.RowKit Go.Proofs Go.Maps
attribute [local go_sem ↓] Go.wp_at_zero Go.wp_at_succ
theorem Tryz.enters109 : Enters Tryz.prog 109 := Go.Proofs.enters_of Tryz.func109 (by decide) rfl
theorem Jf1 (ao : Option Addr) (cap : Nat) (w : World) : Calls Tryz.prog 161 #[.slice ao 0 cap] w fun e w' => e = .returned (.tuple #[]) ∧ w' = w := by
  refine (AnyE.slices_Reverse_empty Tryz.rev238 ao cap w).mono ?_
  rintro e w' h
  exact h
theorem Jeq {Q : Nat → Prop} (w : World) (ao : Option Addr) (n cap : Nat) (xs : List Int) (h : Nums Q w (.slice ao n cap) xs) (hx : xs.length ≤ 200) :
    Calls Tryz.prog 37 #[.slice ao n cap] w fun e w' => ∃ ao' g c, e = .returned (.slice ao' n c) ∧ n ≤ c ∧ (0 < n → ao' = some ⟨g, 0, none⟩ ∧ w.heap.size ≤ g ∧ g < w'.heap.size ∧ RowAt w' g xs) ∧ (∀ a, ao' = some a → a.spot = none) ∧ Below w.heap.size w w' := by
  have hn := Jf h
  by_cases h0 : 0 < n
  · refine (Jat w ao n cap xs h hx h0).mono ?_
    rintro e w' ⟨g, c, rfl, hown, hb⟩
    have hown2 := hown
    obtain ⟨hl, ⟨hv, hz⟩ | ⟨g', c', cur, hv, r⟩⟩ := hown
    · cases hv
    · injection hv with e1 e2 e3
      injection e1 with e1
      injection e1 with e4
      subst e4 e3
      refine ⟨_, g, c, rfl, r.2.2.1, fun _ => ⟨rfl, r.1, (hown2.lt g rfl).2, fun j hj => ⟨?_, hown2.frozenAt j⟩⟩, fun a h => by cases h; rfl, hb⟩
      rw [hown2.cellAt j (by omega)]
      simp [hj]
  · refine (Jm8 (fun _ => True) w (fun _ _ => trivial) (.slice ao n cap) xs h hx).mono ?_
    rintro e w' ⟨so, sn, sc, rfl, hN, hb⟩
    have hn' := Jf hN
    have e1 : sn = n := by omega
    subst e1
    have hcp := Zk hN
    obtain ⟨ao', cap', hv, _, _, hsp⟩ := hN
    injection hv with e1 e2 e3
    subst e1
    exact ⟨so, 0, sc, rfl, hcp, fun h => absurd h h0, hsp, hb⟩
theorem Jf3 (L : List Int) : Z8 L (0, L.length) = L.reverse := by
  unfold Z8
  simp
theorem Ja7 {w : World} {P : Nat → Prop} {g c : Nat} {L : List Int} (h : RowAt w g L) (hg : g < w.heap.size) (hP : P g) (hc : L.length ≤ c) : Nums P w (.slice (some ⟨g, 0, none⟩) L.length c) L :=
  ⟨_, _, rfl, hc, fun _ => ⟨g, 0, rfl, hP, hg, fun i hi => by rw [Nat.zero_add]; exact (h i hi).1⟩, fun a e => by cases e; rfl⟩
set_option maxHeartbeats 4000000 in
set_option maxRecDepth 20000 in
theorem Jmw (w : World) : FnOne 109 #[] w Xy := by
  intro W P v a _ hP ha hoa
  have ha0 := ha
  obtain ⟨so, sn, sc, co, cn, cc, rfl, ha1, ha2⟩ := ha
  have hsn := (Jc ha0).2
  have hcn := (Jc ha0).1
  show Calls Tryz.prog 109 #[.agg #[.slice so sn sc, .slice co cn cc]] W _
  have hst : Bx W ((W.alloc (.cells #[.slice so sn sc, .slice co cn cc] 57)).alloc (.cells #[.slice none 0 0, .slice none 0 0] 57)) [[.slice so sn sc, .slice co cn cc], [.slice none 0 0, .slice none 0 0]] := ((Bx.nil W).alloc (by simp) [.slice so sn sc, .slice co cn cc] 57).alloc (by simp) [.slice none 0 0, .slice none 0 0] 57
  have hs4 : (a.shape.map Int.ofNat).length ≤ 200 := by have := hoa.rank; simp; omega
  have HCl := hide (Jeq _ so sn sc _ (ha1.below hst.below) hs4)
  have HST := hide hst
  have HP := hide hP
  have HA := hide ha0
  have HOA := hide hoa
  have HSN := hide hsn
  have HCN := hide hcn
  have hcn2 : cn ≤ 200 := by have := hoa.few; omega
  clear ha0 ha1 ha2 hst hP hoa hsn hcn hs4
  go_enter Tryz.func109, Tryz.ntmps109
  go_wp2_with fail
  refine (Ja HCl).mono ?_
  rintro e w1 ⟨ao, g, c, rfl, hc, hrow, hsp, hb1⟩
  have HX1 := hide ((Ja HST).next hb1)
  have hltS := (Ja HST).lt
  have HTurn : Hid (Calls Tryz.prog 161 #[.slice ao sn c] w1 fun e w2 => e = .returned (.tuple #[]) ∧ Bx W w2 [[.slice so sn sc, .slice co cn cc], [.slice none 0 0, .slice none 0 0]] ∧ Nums (OffB W.heap.size 2 P) w2 (.slice ao sn c) (a.shape.reverse.map Int.ofNat)) := hide (by
    by_cases h0 : sn = 0
    · subst h0
      refine (Jf1 ao c w1).mono ?_
      rintro e w2 ⟨rfl, rfl⟩
      have hz : a.shape = [] := List.eq_nil_of_length_eq_zero (Ja HSN).symm
      rw [hz]
      exact ⟨rfl, Ja HX1, _, _, rfl, by simp, fun h => absurd h (by simp), hsp⟩
    · obtain ⟨rfl, hg1, hg2, hr⟩ := hrow (by omega)
      have hl : (a.shape.map Int.ofNat).length = sn := by simp [Ja HSN]
      have := No w1 g _ hr (0, sn) (by simp [Ja HSN]) (by simp; have := (Ja HOA).rank; omega) c
      refine this.mono ?_
      rintro e w2 ⟨rfl, hr2, ho2⟩
      rw [← hl, Jf3, ← List.map_reverse] at hr2
      have hW : W.heap.size + 2 ≤ g := by simp at hltS hg1; omega
      refine ⟨rfl, (Ja HX1).keep (ho2.below hW), ?_⟩
      have h3 := Ja7 (P := OffB W.heap.size 2 P) (c := c) hr2 (by rw [ho2.size]; exact hg2) (OffB.new (Ja HP) hW) (by simpa [← Ja HSN] using hc)
      simpa [← Ja HSN] using h3)
  clear hrow hsp hb1 HCl HST hltS
  have b0 : w1.cell? ⟨W.heap.size, 0, none⟩ = some (.slice so sn sc) := ((Ja HX1).cell 0 0 _ rfl).1
  go_wp2_with fail
  refine (Ja HTurn).mono ?_
  rintro e w2 ⟨rfl, hX2, hN2⟩
  have HX2 := hide hX2
  have HN2 := hide hN2
  clear hX2 hN2 HTurn HX1 b0
  have b0 : w2.cell? ⟨W.heap.size, 0, none⟩ = some (.slice so sn sc) := ((Ja HX2).cell 0 0 _ rfl).1
  have b1 : w2.cell? ⟨W.heap.size, 1, none⟩ = some (.slice co cn cc) := ((Ja HX2).cell 0 1 _ rfl).1
  go_wp2_with fail
  refine (J2 _ so sn sc co cn cc).mono ?_
  rintro e w3 ⟨rfl, hw3⟩
  have hb3 : Below w2.heap.size w2 w3 := by rw [hw3]; exact (Below.refl _ _).alloc (Nat.le_refl _) _
  have HX3 := hide ((Ja HX2).next hb3)
  have HN3 := hide ((Ja HN2).below hb3)
  clear hw3 hb3 HX2 HN2 b0 b1
  go_wp2_with fail
  obtain ⟨xs, hxs⟩ : ∃ xs, Jel a = xs := ⟨_, rfl⟩
  have HXS := hide hxs
  have hxl : xs.length = cn := by rw [← hxs, Xz, Ja HCN]
  have HXL := hide hxl
  clear hxs hxl
  go_loopw [5, 14] (fun v5 v14 wr => ∃ i : Nat, v14 = .int .i64 i ∧ i ≤ cn ∧ OwnL w3.heap.size wr v5 (xs.take i) ∧ Below w3.heap.size w3 wr) (fun _ v14 _ => cn - (intOf v14).toNat)
  case atStart => exact ⟨0, rfl, by omega, by simpa using OwnL.nil _ _, Below.refl _ _⟩
  case round =>
    obtain ⟨i, rfl, hi, ho, hb⟩ := hrel
    rename World => wr
    have HO := hide ho
    have HB := hide hb
    have HXr := hide ((Ja HX3).next hb)
    have hszr := hb.size
    have hlt3 := (Ja HX3).lt
    simp at hlt3
    by_cases hin : i < cn
    · have hil : i < a.cells.length := by rw [← Ja HCN]; exact hin
      have hAr : IsArr P wr (.agg #[.slice so sn sc, .slice co cn cc]) a := (Ja HA).below (Ja HXr).below
      have hpl : fpl a.shape 0 i < a.cells.length := by
        have h1 := Jlj a.shape 0 i 1 (Fo (by rw [← (Ja HOA).size]; omega)) (by omega)
        rw [Nat.one_mul, ← (Ja HOA).size] at h1
        exact h1
      obtain ⟨q, hq⟩ : ∃ q, fpl a.shape 0 i = q := ⟨_, rfl⟩
      rw [hq] at hpl
      have hnc := Jq (Ja HA)
      obtain ⟨cb, cof, rfl, hcb, hcell, hcap⟩ := hnc.at hpl
      obtain ⟨x, hx⟩ : ∃ x, a.cells[q] = x := ⟨_, rfl⟩
      rw [hx] at hcell
      have HT : Hid (xs.take (i + 1) = xs.take i ++ [x]) := hide (by
        have h2 : xs[i]? = some x := by
          rw [← Ja HXS]
          unfold Jel
          rw [List.getElem?_map, List.getElem?_range hil]
          simp [hq, hpl, hx]
        rw [List.take_add_one, h2]
        rfl)
      have HPl : Hid (∀ w', Below wr.heap.size wr w' → Calls Tryz.prog 162 #[.agg #[.slice so sn sc, .slice (some ⟨cb, cof, none⟩) cn cc], .int .i64 i] w' fun e W' => e = .returned (.int .i64 q) ∧ Below w'.heap.size w' W') := hide (fun w' hb' => by
        rw [← hq]
        exact Jge w' _ _ _ _ _ _ a (hAr.below hb') (Ja HOA) i hil)
      have HCe : Hid (∀ w', Below wr.heap.size wr w' → w'.cell? ⟨W.heap.size, 0, none⟩ = some (.slice so sn sc) ∧ w'.cell? ⟨W.heap.size, 1, none⟩ = some (.slice (some ⟨cb, cof, none⟩) cn cc) ∧ w'.cell? ⟨cb, cof + q, none⟩ = some (.int .i64 x)) := hide (fun w' hb' => by
        have h1 := (Ja HXr).next hb'
        exact ⟨(h1.cell 0 0 _ rfl).1, (h1.cell 0 1 _ rfl).1, (h1.below.cell (p := ⟨cb, cof + q, none⟩) hcb).trans hcell⟩)
      have b0 : wr.cell? ⟨W.heap.size, 0, none⟩ = some (.slice so sn sc) := ((Ja HXr).cell 0 0 _ rfl).1
      have b1 : wr.cell? ⟨W.heap.size, 1, none⟩ = some (.slice (some ⟨cb, cof, none⟩) cn cc) := ((Ja HXr).cell 0 1 _ rfl).1
      have i0 : (0 : Int) ≤ (i : Int) := by omega
      have i1 : (i : Int) < (cn : Int) := by omega
      have q0 : (0 : Int) ≤ (q : Int) := by omega
      have q1 : (q : Int) < (cn : Int) := by have := Ja HCN; omega
      have hk : (xs.take i).length ≤ 300 := by simp; omega
      have HK := hide hk
      have hWr : W.heap.size < wr.heap.size := by omega
      have hcbr : cb < wr.heap.size := by omega
      clear ho hb hAr hnc hq hx hk hcell hil
      go_wp2_with fail
      go_region_law (first
        | (refine Nk rfl _ _ rfl rfl ((Ja HO).below (Ja HB5)) (by have := Ja HK; omega) (by have := (Ja HB5).size; have := (Ja HB).size; omega) x rfl rfl ?_; intro v6 w6 ho6 hg6; have HO6 := hide ho6; have HB6 := hide (((Ja HB).trans ((Ja HB5).mono (Ja HB).size)).trans hg6.bel); clear ho6 hg6)
        | (go_simp; go_at_call 162; refine (Ja HPl _ (by first | exact (Below.refl _ _).drew | exact Below.refl _ _)).mono ?_; rintro e w5 ⟨rfl, hb5⟩; have HB5 := hide ((Below.refl wr.heap.size wr).drew.trans hb5); obtain ⟨b0', b1', ce'⟩ := Ja HCe w5 (Ja HB5); have hs5 := (Ja HB5).size; have hW5 : W.heap.size < w5.heap.size := Nat.lt_of_lt_of_le hWr hs5; have hc5 : cb < w5.heap.size := Nat.lt_of_lt_of_le hcbr hs5; clear hb5))
      all_goals
        go_wp2_with fail
        go_roundw
        case rel => exact ⟨i + 1, by go_num, by omega, by rw [Ja HT]; exact Ja HO6, Ja HB6⟩
        case measure => simp [intOf]; omega
    · have hie : i = cn := by omega
      have hT : xs.take i = xs := List.take_of_length_le (by rw [Ja HXL]; omega)
      rw [hT] at ho HO
      have i1 : ¬ (i : Int) < (cn : Int) := by omega
      obtain ⟨vo, vc, rfl⟩ := ho.shape
      have HR : Hid (Xy a = (⟨a.shape.reverse, xs⟩, 0)) := hide (by unfold Xy; rw [Ja HXS])
      have HNr := hide ((Ja HN3).below hb)
      have HNc : Hid (Nums (OffB W.heap.size 2 P) wr (.slice vo xs.length vc) xs) := hide (ho.nums.imp (fun b h _ => OffB.new (Ja HP) (by omega)))
      have r0 : wr.cell? ⟨W.heap.size + 1, 0, none⟩ = some (.slice none 0 0) := ((Ja HXr).cell 1 0 _ rfl).1
      have r1 : wr.cell? ⟨W.heap.size + 1, 1, none⟩ = some (.slice none 0 0) := ((Ja HXr).cell 1 1 _ rfl).1
      have g0 : wr.frozen? ⟨W.heap.size + 1, 0, none⟩ = false := ((Ja HXr).cell 1 0 _ rfl).2
      have g1 : wr.frozen? ⟨W.heap.size + 1, 1, none⟩ = false := ((Ja HXr).cell 1 1 _ rfl).2
      clear ho hb hT hie
      go_wp2_with fail
      have hf2 := Yd (q := 1) (u0 := .slice ao sn c) (u1 := .slice vo xs.length vc) (Ja HXr).below (by decide) (G8 (sh := a.shape.reverse) (Ja HNr) (Ja HNc))
      exact bodyPost_ret (v := .tuple #[.agg #[.slice ao sn c, .slice vo xs.length vc], .int .i64 0]) (by simp [results, Tryz.results109, go_sem, r0, r1]) rfl ⟨_, _, _, _, _, _, by rw [Ja HR], by rw [Ja HR]; exact hf2.1, hf2.2⟩
theorem Jkt : OneC ⟨#[102, 108, 105, 112]⟩ Xy := ⟨fun w => (Za (t := ⟨#[102, 108, 105, 112]⟩) (k1 := .string [108, 105, 112]) (k2 := .string [102, 108, 105, 112]) (f := 109) (by decide) (by kernel_rfl) (by kernel_rfl) (by kernel_rfl) (by kernel_rfl) w).mono (by rintro e w' ⟨rfl, hb⟩; exact ⟨109, #[], rfl, Tryz.enters109, hb, Jmw w'⟩), fun a ha => ⟨(Jc4 ha).few, fun _ => Jc4 ha⟩⟩
end Go.Proofs.YtjobgpahajhbnabGreatDoor
namespace Go.Proofs.YtjobgpahajhbnabGreatDoor
open Go.RowKit Go.Proofs Go.Maps
attribute [local go_sem ↓] Go.wp_at_zero Go.wp_at_succ
theorem Tryz.enters120 : Enters Tryz.prog 120 := Go.Proofs.enters_of Tryz.func120 (by decide) rfl
def OwnI (B : Nat) (w : World) (v : Value) (xs : List Int) : Prop := w.ownsRow B 3 1 v xs.length (xs.map (Value.int .i64))
theorem OwnI.nil (B : Nat) (w : World) : OwnI B w (.slice none 0 0) [] := World.ownsRow_nil _ _ _ _
theorem OwnI.nums {B : Nat} {w : World} {v : Value} {xs : List Int} (h : OwnI B w v xs) : Nums (fun b => B ≤ b) w v xs := Js (P := fun b => B ≤ b) h (fun _ h => h)
theorem OwnI.shape {B : Nat} {w : World} {v : Value} {xs : List Int} (h : OwnI B w v xs) : ∃ vo vc, v = .slice vo xs.length vc := by
  obtain ⟨vo, vc, h1, _⟩ := J9 h
  exact ⟨vo, vc, h1⟩
theorem Ja3 {ops : Array Oper} {rest : List Oper} {o : Oper} {a : Act} {Q : Exit → Act → World → Prop} (hgd : o.guard = none) (s x : Operand) (ho : o.op = .call { callee := .builtin .append, args := #[s, x], argTypes := #[31, 31] })
    {B : Nat} {w : World} {v : Value} {xs : List Int} (h : OwnI B w v xs) (hx : xs.length ≤ 1000) (hB : B ≤ w.heap.size) (y : Int) (hs : a.eval s = v) (hv : a.eval x = .slice (some ⟨w.heap.size, 0, none⟩) 1 1)
    (hk : ∀ v' w', OwnI B w' v' (xs ++ [y]) → Below B w w' → wpList Tryz.prog ops Q rest (a.put o.dst v') w') : wpList Tryz.prog ops Q (o :: rest) a (w.alloc (.cells #[.int .i64 y] 3)) := by
  obtain ⟨i0, hi, hz0, hz1, hz2⟩ := info_parts Tryz.info3
  refine wpList_append_own_at _ hgd s x 31 ho B 3 i0 (.int .i64 0) 1 8 Tryz.underlying31 hi hz0 hz1 hz2 rfl (by decide) v _ _ hs (World.ownsRow.alloc h _) ⟨w.heap.size, 0, none⟩ 1 1 [.int .i64 y] hv rfl (by intro j u hj; match j, hj with | 0, hj => simp at hj; subst hj; exact (World.cell?_alloc_at _ _ _ _ rfl).trans rfl) (by intro u hu; simp at hu; subst hu; rfl) (by unfold maxLen; omega) (by omega) (by simp; omega) ?_
  intro v' w' h2 h3 _ h4
  exact hk v' w' (by unfold OwnI; rw [List.map_append, List.length_append]; exact h2) (((Below.refl _ _).alloc hB _).grown h3 (by simp; omega) (fun q hq => (World.ownsRow.lt h q hq).1))
def Zc (xs : List Int) : List Nat := xs.map fun c => (min c 65).toNat
def reC (n : Nat) (bs : List Int) (i : Nat) : List Int := (List.range n).map fun p => if p < i then bs.getD (p % bs.length) 0 else 0
def J3 (a b : Arr) : Arr × Int :=
  if 1 < a.shape.length ∨ 3 < a.cells.length then (eArr, 5) else if a.cells.any negB = true then (eArr, 7)
  else if Yu (Zc a.cells) = false then (eArr, 9) else if b.cells.length = 0 ∧ 0 < Jj (Zc a.cells) then (eArr, 6)
  else (⟨Zc a.cells, reC (Jj (Zc a.cells)) b.cells (Jj (Zc a.cells))⟩, 0)
theorem Xn (n : Nat) (bs : List Int) (i : Nat) : (reC n bs i).length = n := by simp [reC]
theorem Jjj (n : Nat) (bs : List Int) : reC n bs 0 = List.replicate n 0 := by simp [reC, List.map_const']
theorem Jl7 {n i : Nat} {bs : List Int} (_hi : i < n) : (reC n bs i).set i (bs.getD (i % bs.length) 0) = reC n bs (i + 1) := by
  apply List.ext_getElem
  · simp [reC]
  · intro p h1 h2
    simp only [reC, List.getElem_set, List.getElem_map, List.getElem_range]
    by_cases e : i = p
    · subst e
      rw [if_pos rfl, if_pos (by omega)]
    · rw [if_neg e]
      by_cases h : p < i
      · rw [if_pos h, if_pos (by omega)]
      · rw [if_neg h, if_neg (by omega)]
theorem Xk (xs : List Int) : (Zc xs).length = xs.length := by simp [Zc]
theorem Jdr {xs : List Int} {n : Nat} (h : n ∈ Zc xs) : n ≤ 65 := by
  simp only [Zc, List.mem_map] at h
  obtain ⟨c, _, rfl⟩ := h
  omega
theorem Nl {xs : List Int} (h : xs.any negB = false) : (Zc xs).map Int.ofNat = xs.map fun c => min c 65 := by
  rw [Zc, List.map_map]
  apply List.map_congr_left
  intro c hc
  have h1 : negB c = false := by
    cases hn : negB c with
    | false => rfl
    | true => rw [List.any_eq_true.2 ⟨c, hc, hn⟩] at h; cases h
  have h2 : ¬ c < 0 := by simpa [negB] using h1
  show ((min c 65).toNat : Int) = min c 65
  omega
theorem Jc6 {sh : List Nat} (h : Yu sh = true) : (∀ n ∈ sh, n ≤ 64) ∧ Jj sh ≤ 64 := by
  unfold Yu at h
  simpa using h
theorem Jbl {a b : Arr} (hb : b.ok) (h0 : (J3 a b).2 = 0) : (J3 a b).1.ok := by
  unfold J3 at h0 ⊢
  split
  · rename_i h
    rw [if_pos h] at h0
    exact absurd h0 (by decide)
  · rename_i h1
    rw [if_neg h1] at h0
    split
    · rename_i h
      rw [if_pos h] at h0
      exact absurd h0 (by decide)
    · rename_i h2
      rw [if_neg h2] at h0
      split
      · rename_i h
        rw [if_pos h] at h0
        exact absurd h0 (by decide)
      · rename_i h3
        rw [if_neg h3] at h0
        split
        · rename_i h
          rw [if_pos h] at h0
          exact absurd h0 (by decide)
        · have hf := Jc6 (by simpa using h3)
          refine ⟨by simp only [Xk]; omega, fun n hn => by have := hf.1 n hn; omega, by simp only [Xn], by simp only [Xn]; omega, ?_⟩
          intro c hc
          simp only [reC, List.mem_map, List.mem_range] at hc
          obtain ⟨p, hp, rfl⟩ := hc
          rw [if_pos hp, List.getD_eq_getElem?_getD]
          cases hg : b.cells[p % b.cells.length]? with
          | none => simp [Jg]
          | some v => exact hb.fits v (List.mem_of_getElem? hg)
theorem Fm {a b : Arr} (h : (J3 a b).2 ≠ 0) : (J3 a b).1 = eArr := by
  unfold J3 at h ⊢
  repeat' split
  all_goals first | rfl | skip
  rename_i h1 h2 h3 h4
  rw [if_neg h1, if_neg h2, if_neg h3, if_neg h4] at h
  exact absurd rfl h
end Go.Proofs.YtjobgpahajhbnabGreatDoor
