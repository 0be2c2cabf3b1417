import Derived.Test.YtjobgpahajhbnabGreatDoorJb
import Derived.Test.YtjobgpahajhbnabGreatDoorTr
import Derived.Maps.AppendAt
import Derived.Deep.RegionLaw
import Derived.Test.YtjobgpahajhbnabGreatDoorRc
import Derived.Shelf.Spec.SlicesGrow
namespace Go.Proofs.YtjobgpahajhbnabGreatDoor
open Go.RowKit Go.Proofs
attribute [local go_sem ↓] Go.wp_at_zero Go.wp_at_succ
def OwnL (B : Nat) (w : World) (v : Value) (xs : List Int) : Prop := w.ownsRow B 2 1 v xs.length (xs.map (Value.int .i64))
def Aprt (u v : Value) : Prop := ∀ g, u.ownBlock = some g → v.ownBlock ≠ some g
theorem Aprt.or {u v : Value} (h : Aprt u v) : u.ownBlock = none ∨ u.ownBlock ≠ v.ownBlock := by
  cases hu : u.ownBlock with
  | none => exact Or.inl rfl
  | some g => exact Or.inr (fun e => h g hu e.symm)
theorem OwnL.below {B : Nat} {w w' : World} {v : Value} {xs : List Int} (h : OwnL B w v xs) (hb : Below w.heap.size w w') : OwnL B w' v xs := Ka h hb
theorem OwnL.nil (B : Nat) (w : World) : OwnL B w (.slice none 0 0) [] := World.ownsRow_nil _ _ _ _
theorem OwnL.nums {B : Nat} {w : World} {v : Value} {xs : List Int} (h : OwnL B w v xs) : Nums (fun b => B ≤ b ∧ b < w.heap.size) w v xs := (Jt (P := fun b => B ≤ b) h (fun _ h => h)).imp (fun _ h hl => ⟨h, hl⟩)
theorem OwnL.shape {B : Nat} {w : World} {v : Value} {xs : List Int} (h : OwnL B w v xs) : ∃ vo vc, v = .slice vo xs.length vc := by
  obtain ⟨vo, vc, h1, _⟩ := Yb h; exact ⟨vo, vc, h1⟩
structure Grew (B : Nat) (w : World) (v v' : Value) (w' : World) : Prop where
  bel : Below B w w'
  own : ∀ u ys, OwnL B w u ys → Aprt u v → OwnL B w' u ys
  apart : ∀ u ys, OwnL B w u ys → Aprt u v → Aprt u v'
theorem Jh0 {B : Nat} {w w' : World} {v v' : Value} {o : Obj} {n : Nat} {xs : List Value} (hown : w.ownsRow B 2 1 v n xs) (hB : B ≤ w.heap.size) (hg : (w.alloc o).grownBy w' v.ownBlock) (hat : v'.ownBlock = v.ownBlock ∨ v'.ownBlock = some (w.alloc o).heap.size) : Grew B w v v' w' := by
  refine ⟨((Below.refl _ _).alloc hB o).grown hg (by simp; omega) (fun q hq => (hown.lt q hq).1), fun u ys hu ha => ((World.ownsRow.alloc hu o).kept hg ha.or), fun u ys hu ha g hgu => ?_⟩; rcases hat with e | e
  · rw [e]; exact ha g hgu
  · rw [e]; have := (World.ownsRow.lt hu g hgu).2; simp; omega
theorem app1 {B : Nat} {w : World} {v : Value} {xs : List Int} (h : OwnL B w v xs) (hx : xs.length ≤ 1000) (hB : B ≤ w.heap.size) (x : Int) :
    ∃ v' w', (Builtin.append_ #[32, 32] 32 #[v, .slice (some ⟨w.heap.size, 0, none⟩) 1 1]).run Tryz.prog (w.alloc (.cells #[.int .i64 x] 2)) = .ok v' w' ∧ OwnL B w' v' (xs ++ [x]) ∧ Grew B w v v' w' := by
  obtain ⟨i0, hi, hz0, hz1, hz2⟩ := info_parts Tryz.info2; obtain ⟨v', w', h1, h2, h3, _, h4⟩ := run_append_own_at (P := Tryz.prog) (w.alloc (.cells #[.int .i64 x] 2)) B 32 32 2 i0 (.int .i64 0) 1 8 Tryz.underlying32 hi hz0 hz1 hz2 rfl (by decide) v _ _ (World.ownsRow.alloc h _) ⟨w.heap.size, 0, none⟩ 1 1 [.int .i64 x] rfl (by intro j u hj; match j, hj with | 0, hj => simp at hj; subst hj; exact (World.cell?_alloc_at _ _ _ _ rfl).trans rfl) (by intro u hu; simp at hu; subst hu; rfl) (by unfold maxLen; omega) (by omega) (by simp; omega); exact ⟨v', w', h1, by unfold OwnL; rw [List.map_append, List.length_append]; exact h2, Jh0 h hB h3 h4⟩
theorem Xi {ops : Array Oper} {rest : List Oper} {o : Oper} {a : Act} {Q : Exit → Act → World → Prop} (hgd : o.guard = none) (s x : Operand) (ho : o.op = .call { callee := .builtin .append, args := #[s, x], argTypes := #[32, 32] })
    {B : Nat} {w : World} {v : Value} {xs : List Int} (h : OwnL B w v xs) (hx : xs.length ≤ 1000) (hB : B ≤ w.heap.size) (y : Int) (hs : a.eval s = v) (hv : a.eval x = .slice (some ⟨w.heap.size, 0, none⟩) 1 1)
    (hk : ∀ v' w', OwnL B w' v' (xs ++ [y]) → Grew B w v v' w' → wpList Tryz.prog ops Q rest (a.put o.dst v') w') : wpList Tryz.prog ops Q (o :: rest) a (w.alloc (.cells #[.int .i64 y] 2)) := by
  obtain ⟨i0, hi, hz0, hz1, hz2⟩ := info_parts Tryz.info2; refine wpList_append_own_at _ hgd s x 32 ho B 2 i0 (.int .i64 0) 1 8 Tryz.underlying32 hi hz0 hz1 hz2 rfl (by decide) v _ _ hs (World.ownsRow.alloc h _) ⟨w.heap.size, 0, none⟩ 1 1 [.int .i64 y] hv rfl (by intro j u hj; match j, hj with | 0, hj => simp at hj; subst hj; exact (World.cell?_alloc_at _ _ _ _ rfl).trans rfl) (by intro u hu; simp at hu; subst hu; rfl) (by unfold maxLen; omega) (by omega) (by simp; omega) ?_; intro v' w' h2 h3 _ h4; exact hk v' w' (by unfold OwnL; rw [List.map_append, List.length_append]; exact h2) (Jh0 h hB h3 h4)
def Few (l : List Int) : Prop := ∀ x ∈ l, -60 ≤ x ∧ x ≤ 60
set_option maxHeartbeats 1000000 in
set_option maxRecDepth 20000 in
theorem Nk (ao : Option Addr) (n cap : Nat) (xs : List Int) (M : Nat) (hM : M ≤ 100) (w : World) (hr : Jiz w ao xs) (hn : xs.length = n) (hlt : 0 < n → ∀ b off, ao = some ⟨b, off, none⟩ → b < w.heap.size) :
    Calls Tryz.prog 14 #[.slice ao n cap, .int .i64 M] w fun e w' => ∃ v, e = .returned v ∧ ∃ l, OwnL w.heap.size w' v l ∧ l.length ≤ M ∧ Few l ∧ Below w.heap.size w w' := by
  have HR := hide hr; have HN := hide hn; have HLT := hide hlt; clear hr hn hlt; go_enter Tryz.func14, Tryz.ntmps14; go_wp2_with fail; go_loopw [5, 6] (fun v5 v6 wr => ∃ (k : Nat) (l : List Int), v6 = .int .i64 k ∧ k ≤ n ∧ k ≤ M ∧ l.length = k ∧ Few l ∧ OwnL w.heap.size wr v5 l ∧ Below w.heap.size w wr) (fun _ v6 _ => M - (intOf v6).toNat)
  case atStart => exact ⟨0, [], rfl, by omega, by omega, rfl, (fun x h => by cases h), OwnL.nil _ _, Below.refl _ _⟩
  case round =>
    obtain ⟨k, l, rfl, hk, hkM, hlen, hfew, hown, hbel⟩ := hrel; have HLen := hide hlen; have HFew := hide hfew; have HOw := hide hown; have HBe := hide hbel; by_cases hkn : k < n
    · by_cases hkm : k < M
      · have hkx : k < xs.length := by rw [Ja HN]; exact hkn
        obtain ⟨b, off, rfl, hc⟩ := (Ja HR).2 (by omega); have hb := Ja HLT (by omega) b off rfl; have hf := (Ja HR).1 _ (List.getElem_mem hkx); have c0 := (hbel.cell (p := ⟨b, off + k, none⟩) hb).trans (hc k hkx); obtain ⟨x, hx⟩ : ∃ x, xs[k] = x := ⟨_, rfl⟩; rw [hx] at c0 hf; have HP := hide (fun w' => Jj6 x 121 hf (by decide) w'); have hk0 : (0 : Int) ≤ (k : Int) := by omega
        have hk1 : (k : Int) < (n : Int) := by omega
        have hk2 : (k : Int) < (M : Int) := by omega
        clear hlen hfew hown hbel hc hx hf; go_wp2_with fail; refine (Ja HP _).mono ?_; rintro e w' ⟨⟨r, rfl, hr0, hr1⟩, rfl⟩; have hw : wrap64 (r - 60) = r - 60 := by
          unfold wrap64; omega
        have HR0 := hide hr0; have HR1 := hide hr1; clear hr0 hr1; go_wp2_with (at_builtin; refine Xi rfl _ _ rfl (Ja HOw) (by have := Ja HLen; omega) (Ja HBe).size (r - 60) rfl rfl ?_); intro v' w4 ho4 hg4; have HO4 := hide ho4; have HG4 := hide hg4; clear ho4 hg4; go_wp2_with fail; go_roundw
        case rel => exact ⟨k + 1, l ++ [r - 60], by go_num, by omega, by omega, by simp [Ja HLen], (by
          intro y hy; rcases List.mem_append.1 hy with h | h
          · exact Ja HFew y h
          · simp at h; subst h; have := Ja HR0; have := Ja HR1; omega), Ja HO4, (Ja HBe).trans (Ja HG4).bel⟩
        case measure => simp [intOf]; omega
      · have hk1 : (k : Int) < (n : Int) := by omega
        have hk2 : ¬ (k : Int) < (M : Int) := by omega
        clear hlen hfew hown hbel; go_wp2_with fail; obtain ⟨vo, vc, rfl⟩ := (Ja HOw).shape; exact bodyPost_ret (v := .slice vo l.length vc) (by simp [results, Tryz.results14, go_sem]) rfl ⟨_, rfl, l, Ja HOw, by rw [Ja HLen]; exact hkM, Ja HFew, Ja HBe⟩
    · have hk1 : ¬ (k : Int) < (n : Int) := by omega
      clear hlen hfew hown hbel; go_wp2_with fail; obtain ⟨vo, vc, rfl⟩ := (Ja HOw).shape; exact bodyPost_ret (v := .slice vo l.length vc) (by simp [results, Tryz.results14, go_sem]) rfl ⟨_, rfl, l, Ja HOw, by rw [Ja HLen]; exact hkM, Ja HFew, Ja HBe⟩
end Go.Proofs.YtjobgpahajhbnabGreatDoor
namespace Go.Proofs.YtjobgpahajhbnabGreatDoor
open Go.RowKit Go.Proofs
attribute [local go_sem ↓] Go.wp_at_zero Go.wp_at_succ
theorem NmRow.snoc {ns : List Int} {u : List UInt8} (h : NmRow ns u) {n : Int} {t : List UInt8} (hn : Nm n t) : NmRow (ns ++ [n]) (u ++ (32 :: t)) := by
  induction h with
  | one m s hm => exact NmRow.more m s [n] t hm (NmRow.one n t hn)
  | more m s ms v hm hms ih =>
    have := NmRow.more m s (ms ++ [n]) (v ++ (32 :: t)) hm ih; simpa using this
def Tail (l : List Int) (t : List UInt8) : Prop := (l = [] ∧ t = []) ∨ ∃ u, t = 32 :: u ∧ NmRow l u
theorem Tail.snoc {l : List Int} {t : List UInt8} (h : Tail l t) {n : Int} {s : List UInt8} (hn : Nm n s) : Tail (l ++ [n]) (t ++ (32 :: s)) := by
  rcases h with ⟨rfl, rfl⟩ | ⟨u, rfl, hu⟩
  · exact Or.inr ⟨s, rfl, NmRow.one n s hn⟩
  · exact Or.inr ⟨u ++ (32 :: s), rfl, hu.snoc hn⟩
def RowT (l : List Int) (t : List UInt8) : Prop := (l = [] ∧ t = 40 :: ([105, 111, 116, 97, 32, 48] ++ [41])) ∨ ∃ u, t = 40 :: (([114, 97, 118, 101, 108] ++ (32 :: u)) ++ [41]) ∧ NmRow l u ∧ u.length ≤ 4 * l.length
theorem cat1 (t s : List UInt8) : (⟨t.toArray⟩ : ByteArray) ++ ⟨#[32]⟩ ++ ⟨s.toArray⟩ = ⟨(t ++ (32 :: s)).toArray⟩ := by
  apply Fb; simp
set_option maxHeartbeats 1000000 in
set_option maxRecDepth 20000 in
theorem Jbf {Q : Nat → Prop} (w : World) (ao : Option Addr) (n cap : Nat) (l : List Int) (hn : Nums Q w (.slice ao n cap) l) (hl : l.length ≤ 30) (hf : Few l) :
    Calls Tryz.prog 23 #[.slice ao n cap] w fun e w' => (∃ t, e = .returned (.string ⟨List.toArray t⟩) ∧ RowT l t) ∧ w' = w := by
  obtain ⟨rfl, _, hc⟩ := J7 hn; by_cases h0 : l.length = 0
  · have h0' : ((l.length : Int) == 0) = true := by rw [h0]; rfl
    have HE := hide (List.eq_nil_of_length_eq_zero h0); clear hn hc h0; go_enter Tryz.func23, Tryz.ntmps23; go_wp2
    exact bodyPost_ret (v := .string ⟨(40 :: ([105, 111, 116, 97, 32, 48] ++ [41])).toArray⟩) (by simp [results, Tryz.results23, go_sem]) rfl ⟨⟨_, rfl, Or.inl ⟨Ja HE, rfl⟩⟩, rfl⟩
  · have h0' : ((l.length : Int) == 0) = false := by rw [beq_eq_false_iff_ne]; omega
    obtain ⟨b, off, rfl, hb, hcell⟩ := hc (by omega); have HC := hide hcell; have HF := hide hf; clear hn hc hcell hf; go_enter Tryz.func23, Tryz.ntmps23; go_wp2_with fail; go_loopw [3, 4] (fun v3 v4 wr => ∃ (k : Nat) (t : List UInt8), v4 = .int .i64 k ∧ k ≤ l.length ∧ v3 = .string ⟨t.toArray⟩ ∧ Tail (l.take k) t ∧ t.length ≤ 4 * k ∧ wr = w) (fun _ v4 _ => l.length - (intOf v4).toNat)
    case atStart => exact ⟨0, [], rfl, by omega, rfl, Or.inl ⟨rfl, rfl⟩, by simp, rfl⟩
    case round =>
      obtain ⟨k, t, rfl, hk, rfl, hT, htl, rfl⟩ := hrel; have HT := hide hT; clear hT; by_cases hkl : k < l.length
      · have c0 := Ja HC k hkl; have hx := Ja HF _ (List.getElem_mem hkl); have HTk : Hid (l.take (k + 1) = l.take k ++ [l[k]]) := hide (by rw [List.take_succ_eq_append_getElem hkl]); obtain ⟨x, hxe⟩ : ∃ x, l[k] = x := ⟨_, rfl⟩; rw [hxe] at c0 hx HTk; have HN := hide (fun w' => Jm2 x (by omega) w'); have hk0 : (0 : Int) ≤ (k : Int) := by omega
        have hk1 : (k : Int) < (l.length : Int) := by omega
        clear hxe hx; go_wp2_with fail; refine (Ja HN _).mono ?_; rintro e w' ⟨⟨s, rfl, hs, hsl⟩, rfl⟩; have HS := hide hs; clear hs; go_wp2_with fail; go_roundw
        case rel => exact ⟨k + 1, t ++ (32 :: s), by go_num, by omega, by rw [cat1], by rw [Ja HTk]; exact (Ja HT).snoc (Ja HS), by simp; omega, (by first | rfl | trivial)⟩
        case measure => simp [intOf]; omega
      · have hke : k = l.length := by omega
        subst hke; go_wp2_with fail; refine bodyPost_ret (v := .string ⟨([40, 114, 97, 118, 101, 108] ++ t ++ [41]).toArray⟩) (by simp [results, Tryz.results23, go_sem]; apply Fb; simp) rfl ⟨⟨_, rfl, Or.inr ?_⟩, rfl⟩; have hT := Ja HT; rw [List.take_of_length_le (Nat.le_refl _)] at hT; rcases hT with ⟨rfl, _⟩ | ⟨u, rfl, hu⟩
        · exact absurd rfl h0
        · exact ⟨u, by simp, hu, by simp at htl; omega⟩
theorem Jml (r : List UInt8) : tl ([105, 111, 116, 97] ++ (32 :: r)) = some 4 := by
  have h : ([105, 111, 116, 97] ++ (32 :: r)).takeWhile lU = [105, 111, 116, 97] := rfl; have hf : isFn [105, 111, 116, 97] = true := by decide +kernel
  show wrdE ([105, 111, 116, 97] ++ (32 :: r)) = some 4; unfold wrdE; rw [h]; simp [hf]
theorem Jk2 : Fn1 [105, 111, 116, 97] := ⟨⟨105, [111, 116, 97], rfl, by decide, by decide⟩, Jml, by decide +kernel, by decide +kernel⟩
theorem Jfm {c : UInt8} (hc : lU c = true) {r : List UInt8} (hr : Jlr r) : ([c] ++ r).takeWhile lU = [c] := by
  cases r with
  | nil => simp [hc]
  | cons d r =>
    have : lU d = false := hr d rfl
    simp [hc, this]
theorem Joq {c : UInt8} (hl : lU c = true) (h32 : c ≠ 32) (ht : Qp c = false) (hf : isFn [c] = false) (hk : Ys ⟨#[c]⟩ = 1) (hr : Yg ⟨#[c]⟩ = 0) (htl : ∀ r, tl ([c] ++ r) = wrdE ([c] ++ r)) : NameT [c] := by
  refine ⟨⟨c, [], rfl, h32, ht⟩, fun r hr => ?_, hk, hr⟩; rw [htl]; unfold wrdE; rw [Jfm hl hr]; simp [hf]
theorem Jl0 : NameT [120] := Joq (by decide) (by decide) (by decide) (by decide +kernel) (by decide +kernel) (by decide +kernel) (fun _ => rfl)
theorem Jop : NameT [121] := Joq (by decide) (by decide) (by decide) (by decide +kernel) (by decide +kernel) (by decide +kernel) (fun _ => rfl)
end Go.Proofs.YtjobgpahajhbnabGreatDoor
namespace Go.Proofs.YtjobgpahajhbnabGreatDoor
open Go.RowKit Go.Proofs
attribute [local go_sem ↓] Go.wp_at_zero Go.wp_at_succ
def f1F (t : ByteArray) : Arr → Arr × Int := if t.data.toList.headD 0 = 105 then Gp else fun a => (Zd a, 0)
def f2F (t : ByteArray) : Arr → Arr → Arr × Int := if t.data.toList.headD 0 = 105 then inP else if t.data.toList.headD 0 = 97 then atP else Vr
def rowA (l : List Int) : Arr := ⟨[l.length], l⟩
def EnvOk (env : ByteArray → Option Arr) : Prop := ∀ t a, env t = some a → a.ok
theorem Jbg {l : List Int} (hl : l.length ≤ 64) (hf : ∀ c ∈ l, Jf c) : (rowA l).ok := ⟨by simp [rowA], by simp [rowA]; omega, by simp [rowA, Jj], by simp [rowA]; omega, hf⟩
theorem EnvOk.upd {env : ByteArray → Option Arr} (h : EnvOk env) (nm : ByteArray) {a : Arr} (ha : a.ok) : EnvOk (upd env nm a) := by
  intro t b hb; unfold YtjobgpahajhbnabGreatDoor.upd at hb; split at hb
  · cases hb; exact ha
  · exact h t b hb
theorem Jgl {l : List Int} : Zd (Gq l) = rowA l := by
  unfold Gq rowA Zd; split <;> rfl
theorem Jcu {r : Arr × Int} {p c : Nat} (h : r.2 = 0) (hl : r.1.cells.length ≤ 70) (hc : c ≤ 800) : payP 1000 r p c = .inr (r.1, c + (1 + r.1.cells.length)) := by
  unfold payP; rw [if_neg (by simp [h]), if_neg (by omega)]
theorem Jog {l : List Int} {t : List UInt8} (h : RowT l t) (hl : l.length ≤ 64) (hf : ∀ c ∈ l, Jf c) (p : Nat) : ∃ x, Tw 1 true p x t ∧ Good f1F f2F x ∧ ∀ env, ∃ c, c ≤ 100 ∧ Js env 1000 f1F f2F x 0 = .inr (rowA l, c) := by
  rcases h with ⟨rfl, rfl⟩ | ⟨u, rfl, hu, hul⟩
  · refine ⟨.one ⟨#[105, 111, 116, 97]⟩ (p + 1) (.num [0]), Tw.br 0 p _ _ (Tw.one 0 (p + 1) [105, 111, 116, 97] (.num [0]) [48] Jk2 (Tw.only _ _ _ _ (Tw.row 0 _ [0] [48] (NmRow.one 0 [48] Jm3)))), ⟨Jc8, by simp, by simp, by intro c hc; simp at hc; subst hc; unfold Jf; omega⟩, fun env => ⟨1, by omega, ?_⟩⟩; have hv : f1F ⟨#[105, 111, 116, 97]⟩ (Gq [0]) = (rowA [], 0) := rfl; simp only [Js]; rw [hv, Jcu rfl (by simp [rowA]) (by omega)]; rfl
  · have h0 := Jf6 hu; refine ⟨.one ⟨#[114, 97, 118, 101, 108]⟩ (p + 1) (.num l), Tw.br 0 p _ _ (Tw.one 0 (p + 1) [114, 97, 118, 101, 108] (.num l) u Jh4 (Tw.only _ _ _ _ (Tw.row 0 _ l u hu))), ⟨Ns, h0, by omega, hf⟩, fun env => ⟨0 + (1 + l.length), by omega, ?_⟩⟩; have hv : f1F ⟨#[114, 97, 118, 101, 108]⟩ (Gq l) = (rowA l, 0) := by
      have : f1F ⟨#[114, 97, 118, 101, 108]⟩ = fun a => (Zd a, 0) := rfl
      rw [this]; show (Zd (Gq l), (0 : Int)) = _; rw [Jgl]
    simp only [Js]; rw [hv, Jcu rfl (by simp [rowA]; omega) (by omega)]; rfl
theorem Jcq {l : List Int} {t : List UInt8} (h : RowT l t) : t.length ≤ 10 + 4 * l.length := by
  rcases h with ⟨rfl, rfl⟩ | ⟨u, rfl, _, hu⟩
  · simp
  · simp; omega
theorem Jbx {l : List Int} (h : Few l) : ∀ c ∈ l, Jf c := fun c hc => by have := h c hc; unfold Jf; omega
theorem Jpb (nm t : List UInt8) : (⟨nm.toArray⟩ : ByteArray) ++ ⟨#[32, 105, 115, 32]⟩ ++ ⟨t.toArray⟩ = ⟨(nm ++ ([32, 105, 115, 32] ++ t)).toArray⟩ := by
  apply Fb; simp
set_option maxHeartbeats 400000 in
theorem Jmp (S : Nat → Prop) (db : Nat) (env : ByteArray → Option Arr) (N : Nat) (nm : List UInt8) (hnm : NameT nm) (hnl : nm.length ≤ 4) (w : World) (hD : DkE S db env N w) (hN : N < 1000) (he : EnvOk env) (ko : Option Addr) (kn kc : Nat) (l : List Int) (hn : Nums S w (.slice ko kn kc) l) (hl : l.length ≤ 24) (hf : Few l) :
    Calls Tryz.prog 16 #[.pointer (some ⟨db, 0, none⟩), .string ⟨nm.toArray⟩, .slice ko kn kc] w fun e w' => e = .returned (.bool true) ∧ DkE S db (upd env ⟨nm.toArray⟩ (rowA l)) (N + 1) w' ∧ KeepS S w w' := by
  have HT := hide (Jbf w ko kn kc l hn (by omega) hf); have HS : Hid (∀ t, RowT l t → Calls Tryz.prog 19 #[.pointer (some ⟨db, 0, none⟩), .string (⟨nm.toArray⟩ ++ ⟨#[32, 105, 115, 32]⟩ ++ ⟨t.toArray⟩), .slice ko kn kc] w fun e w' => e = .returned (.bool true) ∧ DkE S db (upd env ⟨nm.toArray⟩ (rowA l)) (N + 1) w' ∧ KeepS S w w') := hide (by
    intro t ht; obtain ⟨x, h1, h2, h3⟩ := Jog ht (by omega) (Jbx hf) (nm.length + 4); obtain ⟨c, _, hev⟩ := h3 env; have htl := Jcq ht; have hs := Jd1 (db := db) (N := N) hnm (Tw.only _ _ _ _ h1) (by simp; omega) (by decide) hN he h2 hev (by simp [rowA]) (by simp [rowA]; omega); rw [Jpb]; exact Jnc S db env _ N (N + 1) _ l c hs w hD ko kn kc hn (by omega))
  clear hnm hD hN he hn hf; go_enter Tryz.func16, Tryz.ntmps16; go_wp2_with fail; refine (Ja HT).mono ?_; rintro e w' ⟨⟨t, rfl, ht⟩, rfl⟩; have HTT := hide ht; have htl := Jcq ht; have htl2 : t.length ≤ 200 := by omega
  clear ht htl; go_wp2_with fail; refine (Ja HS t (Ja HTT)).mono ?_; rintro e w' ⟨rfl, h1, h2⟩; have H1 := hide h1; have H2 := hide h2; clear h1 h2; go_wp2_with fail; exact bodyPost_ret (v := .bool true) (by simp [results, Tryz.results16, go_sem]) rfl ⟨rfl, Ja H1, Ja H2⟩
end Go.Proofs.YtjobgpahajhbnabGreatDoor
namespace Go.Proofs.YtjobgpahajhbnabGreatDoor
open Go.RowKit Go.Proofs
def xT : ByteArray := ⟨#[120]⟩
def yT : ByteArray := ⟨#[121]⟩
end Go.Proofs.YtjobgpahajhbnabGreatDoor
namespace Go.Proofs.YtjobgpahajhbnabGreatDoor
open Go.RowKit Go.Proofs
attribute [local go_sem ↓] Go.wp_at_zero Go.wp_at_succ
theorem KeepS.whole {S : Nat → Prop} {w w' : World} (h : KeepS S w w') {n : Nat} (hn : n ≤ w.heap.size) (hs : ∀ b, 6 ≤ b → b < n → S b) : Below n w w' :=
  ⟨h.os, h.tape, h.output, h.size, fun k hk => Bs.block h k (by omega) (fun hh => hh.1 (hs k hh.2 hk))⟩
end Go.Proofs.YtjobgpahajhbnabGreatDoor
namespace Go.Proofs.YtjobgpahajhbnabGreatDoor
open Go.RowKit Go.Proofs
attribute [local go_sem ↓] Go.wp_at_zero Go.wp_at_succ
def env0 : ByteArray → Option Arr := fun _ => none
theorem env0_ok : EnvOk env0 := fun _ _ h => by cases h
def envX (l : List Int) : ByteArray → Option Arr := upd env0 ⟨List.toArray [120]⟩ (rowA l)
def envY (l o : List Int) : ByteArray → Option Arr := upd (envX l) ⟨List.toArray [121]⟩ (rowA o)
theorem Jl6 (l o : List Int) : envY l o xT = some (rowA l) := by
  unfold envY upd; rw [if_neg (by decide)]; unfold envX upd; rw [if_pos (by decide)]
theorem Jby {l : List Int} (hl : l.length ≤ 64) (hf : ∀ c ∈ l, Jf c) : EnvOk (envX l) := env0_ok.upd _ (Jbg hl hf)
theorem Jh5 {l o : List Int} (hl : l.length ≤ 64) (hf : ∀ c ∈ l, Jf c) (hl2 : o.length ≤ 64) (hf2 : ∀ c ∈ o, Jf c) : EnvOk (envY l o) := (Jby hl hf).upd _ (Jbg hl2 hf2)
end Go.Proofs.YtjobgpahajhbnabGreatDoor
namespace Go.Proofs.YtjobgpahajhbnabGreatDoor
open Go.RowKit Go.Proofs Go.Maps
attribute [local go_sem ↓] Go.wp_at_zero Go.wp_at_succ
variable {F : Int}
structure DkSF (F : Int) (S X : Nat → Prop) (db : Nat) (env : ByteArray → Option Arr) (N : Nat) (mo : Option Nat) (w : World) : Prop where
  dsk : DskN X db F env N mo w
  xlt : ∀ b, X b → b < w.heap.size
  s : ∀ b, S b → 6 ≤ b ∧ b < w.heap.size ∧ ¬ X b ∧ b ≠ db ∧ mo ≠ some b
def DkF (F : Int) (S : Nat → Prop) (db : Nat) (env : ByteArray → Option Arr) (N : Nat) (w : World) : Prop := ∃ X mo, DkSF F S X db env N mo w
theorem DkF.below {S : Nat → Prop} {db : Nat} {env : ByteArray → Option Arr} {N : Nat} {w w' : World} (h : DkF F S db env N w) (hb : Below w.heap.size w w') : DkF F S db env N w' := by
  obtain ⟨X, mo, h1, h2, h3⟩ := h; have := hb.size; exact ⟨X, mo, h1.below hb, fun b h => Nat.lt_of_lt_of_le (h2 b h) this, fun b h => by obtain ⟨a1, a2, a3⟩ := h3 b h; exact ⟨a1, by omega, a3⟩⟩
theorem DkF.lt {S : Nat → Prop} {db : Nat} {env : ByteArray → Option Arr} {N : Nat} {w : World} (h : DkF F S db env N w) {b : Nat} (hb : S b) : 6 ≤ b ∧ b < w.heap.size ∧ b ≠ db := by
  obtain ⟨X, mo, h1, h2, h3⟩ := h; obtain ⟨a1, a2, _, a4, _⟩ := h3 b hb; exact ⟨a1, a2, a4⟩
theorem DkF.more {S : Nat → Prop} {db : Nat} {env : ByteArray → Option Arr} {N : Nat} {w w' : World} (h : DkF F S db env N w) (hb : Below w.heap.size w w') : DkF F (fun b => S b ∨ (w.heap.size ≤ b ∧ b < w'.heap.size)) db env N w' := by
  obtain ⟨X, mo, h1, h2, h3⟩ := h; have hs := hb.size; refine ⟨X, mo, h1.below hb, fun b h => Nat.lt_of_lt_of_le (h2 b h) hs, fun b h => ?_⟩; rcases h with h | ⟨k1, k2⟩
  · obtain ⟨a1, a2, a3⟩ := h3 b h; exact ⟨a1, by omega, a3⟩
  · have l1 := h1.low; have l2 := h1.lt; exact ⟨by omega, k2, fun hx => by have := h2 b hx; omega, by omega, fun e => by have := h1.moLt b e; omega⟩
theorem DkF.lasts (S : Nat → Prop) (db : Nat) (env : ByteArray → Option Arr) (N : Nat) : Jlt (DkF F S db env N) := fun _ _ h hb => h.below hb
end Go.Proofs.YtjobgpahajhbnabGreatDoor
namespace Go.Proofs
open Go.Shelf
def Tryz.grow279_ren : Go.Shelf.Ren := ⟨fun | 4 => 204 | n => n, fun | 22 => 32 | 25 => 2 | 3 => 3 | 4 => 4 | 9 => 9 | 20 => 20 | 0 => 0 | n => n, fun | n => n⟩
theorem Tryz.grow279 : Go.Proofs.Lays8.n4 Tryz.prog Tryz.grow279_ren := {
  mixed := by kernel_rfl
  f4 := ⟨Tryz.f204.name, by decide, Tryz.func204.trans (congrArg some (by kernel_rfl))⟩
  t0 := Tryz.underlying0
  a0 := Tryz.isAgg0
  z0 := Tryz.sizeOf0
  v0 := Tryz.zeroValue0
  t3 := Tryz.underlying3
  a3 := Tryz.isAgg3
  z3 := Tryz.sizeOf3
  v3 := Tryz.zeroValue3
  t4 := Tryz.underlying4
  a4 := Tryz.isAgg4
  z4 := Tryz.sizeOf4
  v4 := Tryz.zeroValue4
  t9 := Tryz.underlying9
  a9 := Tryz.isAgg9
  z9 := Tryz.sizeOf9
  v9 := Tryz.zeroValue9
  t20 := Tryz.underlying20
  a20 := Tryz.isAgg20
  z20 := Tryz.sizeOf20
  v20 := Tryz.zeroValue20
  t22 := Tryz.underlying32
  a22 := Tryz.isAgg32
  z22 := Tryz.sizeOf32
  v22 := Tryz.zeroValue32 }
end Go.Proofs
namespace Go.Proofs.YtjobgpahajhbnabGreatDoor
open Go.RowKit Go.Proofs Go.Maps
attribute [local go_sem ↓] Go.wp_at_zero Go.wp_at_succ
theorem Gr (k : Nat) : (Builtin.zeroCells (Value.int .i64 0).cells k).size = k := by
  simp [Builtin.zeroCells, Value.cells]
theorem Jky (n : Nat) (hn : n ≤ 1000000) (w : World) : Calls Tryz.prog 204 #[.slice none 0 0, .int .i64 n] w fun e w' => ∃ v, e = .returned v ∧ w'.ownsRow w.heap.size 2 1 v 0 [] ∧ Below w.heap.size w w' := by
  obtain ⟨i0, hi, hz0, hz1, hz2⟩ := info_parts Tryz.info2; by_cases h0 : n = 0
  · subst h0; refine (Any8.slices_Grow_room Tryz.grow279 none 0 0 0 w (by omega) (by omega) (by omega) (by omega)).mono ?_; rintro e w' ⟨rfl, rfl⟩; exact ⟨_, rfl, World.ownsRow_nil _ _ _ _, Below.refl _ _⟩
  · refine (Any8.slices_Grow_grow Tryz.grow279 i0 (.int .i64 0) hi hz0 (by omega) none 0 0 n [] w (by omega) (by omega) (by rw [hz2]; omega) (by omega) (by simp) (by simp) (by simp)).mono ?_; rintro e w' ⟨rfl, rfl⟩; have hh : ∀ o, (w.drew.alloc o).heap[w.heap.size]? = some o := fun o => by show (w.heap.push o)[w.heap.size]? = _; simp
    have hge := grownCap_ge w (0 + n) 0 2; have hle := grownCap_le_maxLen w (0 + n) 0 2 (by unfold maxLen; omega); refine ⟨_, rfl, ⟨by simp, .inr ⟨_, _, _, rfl, Nat.le_refl _, hh _, by omega, hle, ?_, by simp⟩⟩, ?_⟩
    · simp only [Array.size_append, List.size_toArray, List.length_nil, Gr]; show _ = grownCap w (0 + n) 0 2 * 1; show 0 + (0 + n - 0) + (grownCap w (0 + n) 0 2 - (0 + n)) = _; omega
    · exact (Below.refl _ _).drew.alloc (by simp) _
theorem Xs {P : Program} (w : World) (t tx ty e e' : TypeId) (i : TypeInfo) (ht : P.underlying t = some (.slice e)) (ht' : P.underlying tx = some (.slice e')) (hi : P.info? e = some i) (base xo : Option Addr) (sLen sCap c : Nat) (hle : sLen ≤ sCap) :
    (Builtin.append_ #[t, tx] ty #[.slice base sLen sCap, .slice xo 0 c]).run P w = .ok (.slice base sLen sCap) w := by
  have hl : ∀ (x : Addr), (loadCells x 0).run P w = .ok #[] w := fun x => by simpa using run_loadCells_list (P := P) w x [] (by simp)
  cases base <;> cases xo <;> simp [Builtin.append_, run_underlying ht, run_underlying ht', sizeOf, typeInfo, hi, hle, storeCells, Builtin.lenOf, Builtin.firstCells, hl]
theorem Y2 {P : Program} {w : World} {ops : Array Oper} {rest : List Oper} {o : Oper} {a : Act} {Q : Exit → Act → World → Prop} (hgd : o.guard = none) (s x : Operand) (t : TypeId) (ho : o.op = .call { callee := .builtin .append, args := #[s, x], argTypes := #[t, t] })
    (e : TypeId) (i : TypeInfo) (ht : P.underlying t = some (.slice e)) (hi : P.info? e = some i) (base : Option Addr) (sLen sCap : Nat) (hle : sLen ≤ sCap) (hs : a.eval s = .slice base sLen sCap) (xo : Option Addr) (c : Nat) (hx : a.eval x = .slice xo 0 c)
    (h : wpList P ops Q rest (a.put o.dst (.slice base sLen sCap)) w) : wpList P ops Q (o :: rest) a w :=
  wpList_plain hgd fun _ hK => by
    have hr := Xs (P := P) w t t o.type e e i ht ht hi base xo sLen sCap c hle; unfold Oper.wp execOp; simp only [ho, resolve, invoke, builtin, Sem.run_bind, Sem.run_pure, Result.andThen_ok, List.map_toArray, List.map_cons, List.map_nil, hs, hx, hr]; exact hK _ _ h
def Jcg (Q : Nat → Prop) (w : World) (gb : Nat) (L : List (List Int)) : Prop := ∀ i, (h : i < L.length) → ∃ o n c, w.cell? ⟨gb, i, none⟩ = some (.slice o n c) ∧ Nums Q w (.slice o n c) L[i]
def lens (L : List (List Int)) (i : Nat) : Nat := (L.take i).flatten.length
theorem Q3 {L : List (List Int)} {i : Nat} (h : i < L.length) : lens L (i + 1) = lens L i + L[i].length := by
  unfold lens; rw [List.take_succ_eq_append_getElem h, List.flatten_append, List.length_append]; simp
theorem Jal {L : List (List Int)} {i : Nat} (h : i < L.length) : (L.take (i + 1)).flatten = (L.take i).flatten ++ L[i] := by
  rw [List.take_succ_eq_append_getElem h, List.flatten_append]; simp
theorem Vq (L : List (List Int)) (i : Nat) : lens L i ≤ L.flatten.length := by
  have : L.flatten.length = (L.take i).flatten.length + (L.drop i).flatten.length := by
    rw [← List.length_append, ← List.flatten_append, List.take_append_drop]
  unfold lens; omega
theorem Fx {Q : Nat → Prop} {w : World} {b off c : Nat} {xs : List Int} (h : Nums Q w (.slice (some ⟨b, off, none⟩) xs.length c) xs) : ∀ j u, (xs.map (Value.int .i64))[j]? = some u → w.cell? ((⟨b, off, none⟩ : Addr).add j) = some u := by
  intro j u hu; obtain ⟨hj, rfl⟩ := Zw hu; obtain ⟨ao, cap, hv, _, hc, _⟩ := h; obtain ⟨b', off', ha, _, _, hcell⟩ := hc (by omega); injection hv with e1 e2 e3; rw [← e1] at ha; injection ha with ha; injection ha with e4 e5; subst e4; subst e5; have e : (⟨b, off, none⟩ : Addr).add j = ⟨b, off + j, none⟩ := by cases j <;> simp [Addr.add]
  rw [e]; exact hcell j hj
theorem V8 {xs : List Int} : ∀ u ∈ xs.map (Value.int .i64), u.oneCell' = true := by
  intro u hu; obtain ⟨x, _, rfl⟩ := List.mem_map.1 hu; rfl
set_option maxHeartbeats 2000000 in
set_option maxRecDepth 10000 in
theorem G9 (P : Nat → Prop) {Q : Nat → Prop} (w : World) (hP : ∀ b, w.heap.size ≤ b → P b) (gb k cap : Nat) (L : List (List Int)) (hk : L.length = k) (hk3 : k ≤ 200) (hgb : gb < w.heap.size) (hL : Jcg Q w gb L) (hfew : L.flatten.length ≤ 1000000) :
    Calls Tryz.prog 176 #[.slice (some ⟨gb, 0, none⟩) k cap] w fun e w' => ∃ so sn sc, e = .returned (.slice so sn sc) ∧ Nums P w' (.slice so sn sc) L.flatten ∧ Below w.heap.size w w' := by
  obtain ⟨i0, hi, hz0, hz1, hz2⟩ := info_parts Tryz.info2; have HI := hide hi; have HZ0 := hide hz0; have HZ1 := hide hz1; have HZ2 := hide hz2; have HP : Hid (∀ b, w.heap.size ≤ b → P b) := hP; have HL := hide hL; have HK := hide hk; have HF := hide hfew; have HG := hide (fun n (h : n ≤ 1000000) w' => Jky n h w'); clear hi hz0 hz1 hz2 hP hL hk hfew; go_enter Tryz.func176, Tryz.ntmps176; go_wp2_with fail; go_loopw [3, 11] (fun v3 v11 wr => ∃ i : Nat, v3 = .int .i64 (lens L i) ∧ v11 = .int .i64 i ∧ i ≤ k ∧ wr = w) (fun _ v11 _ => k - (intOf v11).toNat)
  case atStart => exact ⟨0, by simp [lens], rfl, by omega, rfl⟩
  case round =>
    obtain ⟨i, rfl, rfl, hik, hwr⟩ := hrel; have hwr' := hwr.symm; subst hwr'; by_cases hlt : i < k
    · have hil : i < L.length := by rw [Ja HK]; exact hlt
      obtain ⟨o, n, c, hc, hn⟩ := Ja HL i hil; have hnl := Jg hn; have hsum := Q3 hil; rw [← hnl] at hsum; have hle := Vq L (i + 1); have hf := Ja HF; have hi0 : (0 : Int) ≤ (i : Int) := by omega
      have hi1 : (i : Int) < (k : Int) := by omega
      obtain ⟨m, hm⟩ : ∃ m, lens L i = m := ⟨_, rfl⟩; obtain ⟨m', hm'⟩ : ∃ m', lens L (i + 1) = m' := ⟨_, rfl⟩; rw [hm, hm'] at hsum; rw [hm'] at hle; rw [hm]; have hw1 : IntKind.i64.wrap ((m : Int) + (n : Int)) = (m' : Int) := by rw [Jd (by omega) (by omega)]; omega
      have hneg : ¬ ((m' : Int) < 0) := by omega
      have HM' := hide hm'; clear hn hnl hsum hle hf hm hm'; go_wp2_with fail; go_roundw
      case rel => exact ⟨i + 1, by rw [Ja HM'], by go_num, by omega, (by first | rfl | trivial)⟩
      case measure => simp [intOf]; omega
    · have hik' : i = k := by omega
      subst hik'; have hle : lens L i ≤ 1000000 := Nat.le_trans (Vq L i) (Ja HF); obtain ⟨m, hm⟩ : ∃ m, lens L i = m := ⟨_, rfl⟩; rw [hm] at hle ⊢; clear hm; go_wp2_with fail; refine (Ja HG m hle _).mono ?_; rintro e w1 ⟨v, rfl, hown, hb⟩; have HO := hide hown; have HB := hide hb; clear hown hb; go_wp2_with fail; go_loopw [6, 27] (fun v6 v27 wr => ∃ j : Nat, v27 = .int .i64 j ∧ j ≤ i ∧ wr.ownsRow w.heap.size 2 1 v6 (lens L j) ((L.take j).flatten.map (Value.int .i64)) ∧ Below w.heap.size w wr) (fun _ v27 _ => i - (intOf v27).toNat)
      case atStart => exact ⟨0, rfl, by omega, by simpa [lens] using Ja HO, Ja HB⟩
      case round =>
        obtain ⟨j, rfl, hj, hown, hb⟩ := hrel; by_cases hlt : j < i
        · have hjl : j < L.length := by rw [Ja HK]; exact hlt
          obtain ⟨o, n, c, hc, hn⟩ := Ja HL j hjl; have hc' := (hb.cell (p := ⟨gb, j, none⟩) hgb).trans hc; have hn' := hn.below hb; have hnl := Jg hn; have hsum := Q3 hjl; rw [← hnl] at hsum; have hle := Vq L (j + 1); have hf := Ja HF; have HFl := hide (Jal hjl); have hi0 : (0 : Int) ≤ (j : Int) := by omega
          have hi1 : (j : Int) < (i : Int) := by omega
          obtain ⟨vo, vc, rfl, hvle, -⟩ := Yb hown; have HO := hide hown; have HB := hide hb; have HN := hide hn'; have HNL := hide hnl; have HS := hide hsum; have hbnd : lens L j + n ≤ 1000000 := by omega
          clear hn hn' hown hb hc hsum hle hf hnl; by_cases hn0 : n = 0
          · subst hn0; have hz : L[j] = [] := List.eq_nil_of_length_eq_zero (Ja HNL).symm; have HO4 : Hid (wr.ownsRow w.heap.size 2 1 (.slice vo (lens L j) vc) (lens L (j + 1)) ((L.take (j + 1)).flatten.map (Value.int .i64))) := hide (by
              rw [Ja HS, Ja HFl, hz, List.append_nil, Nat.add_zero]; exact Ja HO)
            clear hz; go_wp2_with (at_builtin; refine Y2 rfl _ _ 32 rfl 2 i0 Tryz.underlying32 (Ja HI) _ _ _ ?c1 rfl _ _ rfl ?_)
            case c1 => exact hvle
            go_wp2_with fail; go_roundw
            case rel => exact ⟨j + 1, by go_num, by omega, Ja HO4, Ja HB⟩
            case measure => simp [intOf]; omega
          · obtain ⟨ao, cap', hv, hcap, h1, _⟩ := Ja HN; obtain ⟨b, off, rfl, _, hbl, hcell⟩ := h1 (by rw [← Ja HNL]; omega); injection hv with e1 e2 e3; subst e1; clear h1 hcell hcap e2 e3; go_wp2_with (at_builtin; refine wpList_append_own _ rfl _ _ 32 rfl w.heap.size 2 i0 (.int .i64 0) 1 8 Tryz.underlying32 (Ja HI) (Ja HZ0) (Ja HZ1) (Ja HZ2) rfl (by decide) _ _ _ rfl (Ja HO) ⟨b, off, none⟩ n c (L[j].map (Value.int .i64)) rfl (by simp [Ja HNL]) ?c2 V8 ?c3 ?c4 ?c5 ?_)
            case c2 =>
              have := Ja HN; rw [Ja HNL] at this; exact Fx this
            case c3 => unfold maxLen; omega
            case c4 => omega
            case c5 => exact (Ja HB).size
            intro v' w4 hown4 hgrow4 _; have HB4 : Hid (Below w.heap.size w w4) := hide ((Ja HB).grown hgrow4 (Ja HB).size (fun q hq => ((Ja HO).lt q hq).1)); have HO4 : Hid (w4.ownsRow w.heap.size 2 1 v' (lens L (j + 1)) ((L.take (j + 1)).flatten.map (Value.int .i64))) := hide (by
              rw [Ja HS, Ja HFl, List.map_append]; simpa using hown4)
            clear hown4 hgrow4; go_wp2_with fail; go_roundw
            case rel => exact ⟨j + 1, by go_num, by omega, Ja HO4, Ja HB4⟩
            case measure => simp [intOf]; omega
        · have hji : j = i := by omega
          subst hji; have hfl : (L.take j).flatten = L.flatten := by rw [← Ja HK, List.take_length]
          rw [hfl] at hown; have hN := Jt (P := P) hown (Ja HP); obtain ⟨vo, vc, rfl, hvle, -⟩ := Yb hown; have HN := hide hN; have HB := hide hb; clear hown hb hN hfl; go_wp2_with fail; go_ret
          exact ⟨_, _, _, rfl, Ja HN, Ja HB⟩
theorem Jex (P : Nat → Prop) {Q : Nat → Prop} (w : World) (hP : ∀ b, w.heap.size ≤ b → P b) (gb k cap : Nat) (L : List (List Int)) (hk : L.length = k) (hk3 : k ≤ 200) (hgb : gb < w.heap.size) (hL : Jcg Q w gb L) (hfew : L.flatten.length ≤ 1000) :
    Calls Tryz.prog 176 #[.slice (some ⟨gb, 0, none⟩) k cap] w fun e w' => ∃ so sn sc, e = .returned (.slice so sn sc) ∧ Nums P w' (.slice so sn sc) L.flatten ∧ Below w.heap.size w w' := G9 P w hP gb k cap L hk hk3 hgb hL (by omega)
end Go.Proofs.YtjobgpahajhbnabGreatDoor
namespace Go.Proofs.YtjobgpahajhbnabGreatDoor
open Go.RowKit Go.Proofs Go.Maps
attribute [local go_sem ↓] Go.wp_at_zero Go.wp_at_succ
theorem Jh3 (l : List Nat) (a : Nat) : l.foldl (· * ·) a = a * l.foldl (· * ·) 1 := by
  induction l generalizing a with
  | nil => simp
  | cons x l ih =>
    simp only [List.foldl_cons, Nat.one_mul]; rw [ih (a * x), ih x, Nat.mul_assoc]
theorem Jp (l r : List Nat) : Jj (l ++ r) = Jj l * Jj r := by
  unfold Jj; rw [List.foldl_append, Jh3]
theorem Yn (n : Nat) : Jj [n] = n := by simp [Jj]
theorem Jd6 {sh : List Nat} {k : Nat} (h : k < sh.length) : Jj (sh.take (k + 1)) = Jj (sh.take k) * sh[k] := by
  rw [List.take_succ_eq_append_getElem h, Jp, Yn]
theorem Jj4 {sh : List Nat} (h : ∀ n ∈ sh, n ≤ 400) : Jj sh ≤ 400 ^ sh.length := by
  induction sh with
  | nil => simp [Jj]
  | cons x l ih =>
    have h1 := ih (fun n hn => h n (List.mem_cons_of_mem _ hn)); have h2 := h x (by simp); have e : Jj (x :: l) = x * Jj l := by
      have := Jp [x] l; rw [Yn] at this; exact this
    rw [e, List.length_cons, Nat.pow_succ, Nat.mul_comm]; exact Nat.mul_le_mul h1 h2
structure Lens (sh : List Nat) : Prop where
  rank : sh.length ≤ 3
  lens : ∀ n ∈ sh, n ≤ 400
theorem Lens.take {sh : List Nat} (h : Lens sh) (k : Nat) : Lens (sh.take k) := ⟨by have := h.rank; simp; omega, fun n hn => h.lens n (List.mem_of_mem_take hn)⟩
theorem Lens.prod {sh : List Nat} (h : Lens sh) : Jj sh ≤ 64000000 := by
  have h1 := Jj4 h.lens; have h2 : 400 ^ sh.length ≤ 400 ^ 3 := Nat.pow_le_pow_right (by decide) h.rank; have h3 : 400 ^ 3 = 64000000 := by decide
  omega
set_option maxHeartbeats 1000000 in
theorem Vb {Q : Nat → Prop} (w : World) (so : Option Addr) (sn sc : Nat) (sh : List Nat) (h : Nums Q w (.slice so sn sc) (sh.map Int.ofNat)) (hl : Lens sh) :
    Calls Tryz.prog 148 #[.slice so sn sc] w fun e w' => e = .returned (.int .i64 (Jj sh)) ∧ w' = w := by
  have hn := Jg h; simp at hn; have hsn3 : sn ≤ 3 := by have := hl.rank; omega
  have HL := hide hl; have HN := hide hn; have HH := hide h; clear h hl hn; go_enter Tryz.func148, Tryz.ntmps148; go_wp2_with fail; go_loopw [3, 8] (fun v3 v8 wr => ∃ k : Nat, v8 = .int .i64 k ∧ v3 = .int .i64 (Jj (sh.take k)) ∧ k ≤ sn ∧ wr = w) (fun _ v8 _ => sn - (intOf v8).toNat)
  case atStart => exact ⟨0, rfl, by simp [Jj], by omega, rfl⟩
  case round =>
    obtain ⟨k, rfl, rfl, hk, hwr⟩ := hrel; have hwr' := hwr.symm; subst hwr'; by_cases hlt : k < sn
    · have hks : k < sh.length := by rw [← Ja HN]; exact hlt
      obtain ⟨b, off, rfl, hb, hc, -⟩ := (Ja HH).at (k := k) (by simpa using hks); simp at hc; have hs := Jd6 hks; have hm := ((Ja HL).take (k + 1)).prod; obtain ⟨m, hm1⟩ : ∃ m, Jj (sh.take k) = m := ⟨_, rfl⟩; obtain ⟨m', hm2⟩ : ∃ m', Jj (sh.take (k + 1)) = m' := ⟨_, rfl⟩; obtain ⟨y, hy⟩ : ∃ y, sh[k] = y := ⟨_, rfl⟩; rw [hm1, hm2, hy] at hs; rw [hm2] at hm; rw [hy] at hc; rw [hm1]; have hw1 : IntKind.i64.wrap ((m : Int) * (y : Int)) = (m' : Int) := by
        rw [← Int.natCast_mul, ← hs]; exact Jd (by omega) (by omega)
      have hi0 : (0 : Int) ≤ (k : Int) := by omega
      have hi1 : (k : Int) < (sn : Int) := by omega
      have HM := hide hm2; clear hs hm hm1 hm2 hy; go_wp2_with fail; go_roundw
      case rel => exact ⟨k + 1, by go_num, by rw [Ja HM], by omega, (by first | rfl | trivial)⟩
      case measure => simp [intOf]; omega
    · have hke : k = sn := by omega
      subst hke; have hfl : sh.take k = sh := List.take_of_length_le (by rw [← Ja HN]; exact Nat.le_refl _); rw [hfl]; clear hfl; go_wp2_with fail; exact bodyPost_ret (v := .int .i64 (Jj sh)) (by simp [results, Tryz.results148, go_sem]) rfl ⟨rfl, (by first | rfl | trivial)⟩
def Yy (sh : List Nat) : Bool := sh.all (fun n => decide (n ≤ 64)) && decide (Jj sh ≤ 64)
set_option maxHeartbeats 1000000 in
theorem Xa {Q : Nat → Prop} (w : World) (so : Option Addr) (sn sc : Nat) (sh : List Nat) (h : Nums Q w (.slice so sn sc) (sh.map Int.ofNat)) (hl : Lens sh) :
    Calls Tryz.prog 145 #[.slice so sn sc] w fun e w' => e = .returned (.bool (Yy sh)) ∧ w' = w := by
  have hn := Jg h; simp at hn; have hsn3 : sn ≤ 3 := by have := hl.rank; omega
  have HL := hide hl; have HN := hide hn; have HH := hide h; have HC := hide (Vb w so sn sc sh h hl); clear h hl hn; go_enter Tryz.func145, Tryz.ntmps145; go_wp2_with fail; go_loopw [7] (fun v7 wr => ∃ k : Nat, v7 = .int .i64 k ∧ (∀ n ∈ sh.take k, n ≤ 64) ∧ k ≤ sn ∧ wr = w) (fun v7 _ => sn - (intOf v7).toNat)
  case atStart => exact ⟨0, rfl, by simp, by omega, rfl⟩
  case round =>
    obtain ⟨k, rfl, hall, hk, hwr⟩ := hrel; have hwr' := hwr.symm; subst hwr'; have HA := hide hall; clear hall; by_cases hlt : k < sn
    · have hks : k < sh.length := by rw [← Ja HN]; exact hlt
      obtain ⟨b, off, rfl, hb, hc, -⟩ := (Ja HH).at (k := k) (by simpa using hks); simp at hc; have hy64 := (Ja HL).lens _ (List.getElem_mem hks); have HTk : Hid (sh.take (k + 1) = sh.take k ++ [sh[k]]) := hide (List.take_succ_eq_append_getElem hks); have HMem := hide (List.getElem_mem hks); obtain ⟨y, hy⟩ : ∃ y, sh[k] = y := ⟨_, rfl⟩; rw [hy] at hc hy64 HTk HMem; have hi0 : (0 : Int) ≤ (k : Int) := by omega
      have hi1 : (k : Int) < (sn : Int) := by omega
      clear hy; by_cases hbig : 64 < y
      · have hb' : (64 : Int) < (y : Int) := by omega
        have HF : Hid (Yy sh = false) := hide (by
          unfold Yy; rw [Bool.and_eq_false_iff]; left
          rw [List.all_eq_false]; exact ⟨y, Ja HMem, by simp; omega⟩)
        go_wp2_with fail; exact bodyPost_ret (v := .bool false) (by simp [results, Tryz.results145, go_sem]) rfl ⟨by rw [Ja HF], (by first | rfl | trivial)⟩
      · have hb' : ¬ ((64 : Int) < (y : Int)) := by omega
        go_wp2_with fail; go_roundw
        case rel => exact ⟨k + 1, by go_num, (by rw [Ja HTk]; intro n hn; rcases List.mem_append.1 hn with h | h; exact Ja HA n h; simp at h; omega), by omega, (by first | rfl | trivial)⟩
        case measure => simp [intOf]; omega
    · have hke : k = sn := by omega
      subst hke; have hfl : sh.take k = sh := List.take_of_length_le (by rw [← Ja HN]; exact Nat.le_refl _); rw [hfl] at HA; have HF : Hid (Yy sh = decide ((Jj sh : Int) ≤ 64)) := hide (by
        unfold Yy; have : sh.all (fun n => decide (n ≤ 64)) = true := by rw [List.all_eq_true]; intro n hn; simpa using Ja HA n hn
        rw [this, Bool.true_and]; simp; omega)
      clear hfl; go_wp2_with (go_at_call 148; refine (Ja HC).mono ?_; rintro e w' ⟨rfl, rfl⟩); exact bodyPost_ret (v := .bool (decide ((Jj sh : Int) ≤ 64))) (by simp [results, Tryz.results145, go_sem]) rfl ⟨by rw [Ja HF], (by first | rfl | trivial)⟩
end Go.Proofs.YtjobgpahajhbnabGreatDoor
