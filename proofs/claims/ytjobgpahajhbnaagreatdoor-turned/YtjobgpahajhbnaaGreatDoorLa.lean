import Derived.Test.YtjobgpahajhbnaaGreatDoorJa
import Derived.Test.YtjobgpahajhbnaaGreatDoorKa
import Derived.Test.YtjobgpahajhbnaaGreatDoorKd
namespace Go.Proofs.YtjobgpahajhbnaaGreatDoor
open Go.RowKit Go.Proofs Go.Maps
attribute [local go_sem ↓] Go.wp_at_zero Go.wp_at_succ

theorem tl_cat (r : List UInt8) : tl ([99, 97, 116] ++ (32 :: r)) = some 3 := by
  have h : ([99, 97, 116] ++ (32 :: r)).takeWhile lU = [99, 97, 116] := rfl
  have hf : isFn [99, 97, 116] = true := by decide +kernel
  show wrdE ([99, 97, 116] ++ (32 :: r)) = some 3
  unfold wrdE
  rw [h]
  simp [hf]
theorem fn2_cat : Fn2 [99, 97, 116] := ⟨⟨99, [97, 116], rfl, by decide⟩, tl_cat, by decide +kernel, by decide +kernel⟩
theorem tl_drop (r : List UInt8) : tl ([100, 114, 111, 112] ++ (32 :: r)) = some 4 := by
  have h : ([100, 114, 111, 112] ++ (32 :: r)).takeWhile lU = [100, 114, 111, 112] := rfl
  have hf : isFn [100, 114, 111, 112] = true := by decide +kernel
  show wrdE ([100, 114, 111, 112] ++ (32 :: r)) = some 4
  unfold wrdE
  rw [h]
  simp [hf]
theorem fn2_drop : Fn2 [100, 114, 111, 112] := ⟨⟨100, [114, 111, 112], rfl, by decide⟩, tl_drop, by decide +kernel, by decide +kernel⟩
theorem tl_take (r : List UInt8) : tl ([116, 97, 107, 101] ++ (32 :: r)) = some 4 := by
  have h : ([116, 97, 107, 101] ++ (32 :: r)).takeWhile lU = [116, 97, 107, 101] := rfl
  have hf : isFn [116, 97, 107, 101] = true := by decide +kernel
  show wrdE ([116, 97, 107, 101] ++ (32 :: r)) = some 4
  unfold wrdE
  rw [h]
  simp [hf]
theorem fn2_take : Fn2 [116, 97, 107, 101] := ⟨⟨116, [97, 107, 101], rfl, by decide⟩, tl_take, by decide +kernel, by decide +kernel⟩
theorem fn2_plus : Fn2 [43] := ⟨⟨43, [], rfl, by decide⟩, fun _ => rfl, by decide +kernel, by decide +kernel⟩
theorem fn2_over : Fn2 [37] := ⟨⟨37, [], rfl, by decide⟩, fun _ => rfl, by decide +kernel, by decide +kernel⟩
theorem name_z : NameT [122] := name1 (by decide) (by decide) (by decide) (by decide +kernel) (by decide +kernel) (by decide +kernel) (fun _ => rfl)
theorem name_q : NameT [113] := name1 (by decide) (by decide) (by decide) (by decide +kernel) (by decide +kernel) (by decide +kernel) (fun _ => rfl)
/-- a line 'name is ..' that fails -/
theorem says_fails_named {f1 : ByteArray → Arr → Arr × Int} {f2 : ByteArray → Arr → Arr → Arr × Int} {env : ByteArray → Option Arr} {S : Nat → Prop} {db N : Nat} {nm : List UInt8} {x : Ex} {t : List UInt8} {d : Nat} (hnm : NameT nm) (h : Tw d false (nm.length + 4) x t) (hs : (nm ++ ([32, 105, 115, 32] ++ t)).length ≤ 200) (hd : d ≤ 8) (he : ∀ t a, env t = some a → a.ok) (hg : Good f1 f2 x) {er : Int} {pl : Nat} (hev : evalE env 1000 f1 f2 x 0 = .inl (er, pl)) (hne : er ≠ 0) :
    Says (DkE S db env N) db ⟨(nm ++ ([32, 105, 115, 32] ++ t)).toArray⟩ er pl [] [] 0 := by
  intro w hD
  obtain ⟨e1, e2, e3⟩ := tw_is hnm h (by simp at hs; omega) hd
  obtain ⟨X, mo, h1, h2, h3⟩ := hD
  exact reply_err env 1000 f1 f2 db w mo _ (by simp [ByteArray.size] at hs ⊢; omega) ⟨h1.lt, h1.evs, h1.c0, h1.c1⟩ (by decide) (by decide) he (h1.look.imp (fun _ _ _ => trivial)) (by rw [e1]) (by rw [e1]) (fun x' hx => by rw [tree_uniq hx e3]; exact hg) er pl (fun x' hx => by rw [tree_uniq hx e3]; exact hev) hne
set_option maxHeartbeats 1000000 in
set_option maxRecDepth 20000 in
/-- two lines that come to the same, the second of which may make a name -/
theorem like_any (S : Nat → Prop) (db : Nat) (env env' : ByteArray → Option Arr) (N N' : Nat) (s t : ByteArray) (sh cs : List Int) (cost cost' : Int) (ht : ∀ S, Says (DkE S db env N) db t 0 0 sh cs cost) (hs : SaysU db env N s env' N' sh cs cost') (w : World) (hD : DkE S db env N w) (hl1 : sh.length ≤ 200) (hl2 : cs.length ≤ 200) :
    Calls Tryz.prog 24 #[.pointer (some ⟨db, 0, none⟩), .string s, .string t] w fun e w' => e = .returned (.bool true) ∧ DkE S db env' N' w' ∧ KeepS S w w' := by
  have HO := hide (one_gen (DkE S db env N) (DkE.lasts S db env N) db t sh cs cost (ht S) w hD)
  have HI : Hid (∀ w2 so sn sc co cn cc, Below w.heap.size w w2 → Nums (fun b => w.heap.size < b) w2 (.slice so sn sc) sh → Nums (fun b => w.heap.size < b) w2 (.slice co cn cc) cs → Calls Tryz.prog 28 #[.pointer (some ⟨db, 0, none⟩), .string s, .slice so sn sc, .slice co cn cc] w2 fun e w' => e = .returned (.bool true) ∧ DkE S db env' N' w' ∧ KeepS S w w') := hide (by
    intro w2 so sn sc co cn cc hb hsh hcs
    have hM := hD.more hb
    refine (is_u _ db env env' N N' s sh cs cost' hs w2 hM so sn sc co cn cc (hsh.imp (fun b h hl => Or.inr ⟨by omega, hl⟩)) (hcs.imp (fun b h hl => Or.inr ⟨by omega, hl⟩)) hl1 hl2).mono ?_
    rintro e w3 ⟨rfl, hd3, hk3⟩
    exact ⟨rfl, hd3.less (fun b h => Or.inl h), (KeepS.of (S := S) hb).trans hk3 (fun b _ h => Or.inl h)⟩)
  clear hs ht hD
  go_enter Tryz.func24, Tryz.ntmps24
  go_wp2_with (go_at_call 29; refine (unhide HO).mono ?_; rintro e w1 ⟨so, sn, sc, co, cn, cc, rfl, h1, h2, hb⟩; have H1 := hide h1; have H2 := hide h2; have HB := hide hb; clear h1 h2 hb)
  have hbw : Below w1.heap.size w1 (w1.alloc (.cells #[.int .i64 0, .int .i64 0, .slice so sn sc, .slice co cn cc, .int .i64 cost] 47)) := (Below.refl _ _).alloc (Nat.le_refl _) _
  refine (unhide HI _ so sn sc co cn cc (below2' (unhide HB) hbw) ((unhide H1).below hbw) ((unhide H2).below hbw)).mono ?_
  rintro e w3 ⟨rfl, hd3, hk3⟩
  have HD3 := hide hd3
  have HK3 := hide hk3
  clear hd3 hk3
  go_wp2_with fail
  exact bodyPost_ret (v := .bool true) (by simp [results, Tryz.results24, go_sem]) rfl ⟨rfl, unhide HD3, unhide HK3⟩
theorem names_u {S : Nat → Prop} {db : Nat} {env : ByteArray → Option Arr} {N : Nat} {w : World} (hD : DkE S db env N w) (ks : List (List UInt8)) (hnd : ks.Nodup) (hks : ∀ x, x ∈ ks ↔ (env ⟨List.toArray x⟩).isSome = true) (hne : 0 < ks.length) (hso : ks.mergeSort leB = ks) (hlen : ks.length ≤ 100) :
    Calls Tryz.prog 31 #[.pointer (some ⟨db, 0, none⟩)] w fun e w' => ∃ g c, e = .returned (.slice (some ⟨g, 0, none⟩) ks.length c) ∧ (∀ i, (h : i < ks.length) → w'.cell? ⟨g, i, none⟩ = some (.string ⟨(ks[i]).toArray⟩)) ∧ Below w.heap.size w w' := by
  obtain ⟨X, mo, h1, h2, h3⟩ := hD
  have hm := h1.map
  have c1 := h1.c1
  cases mo with
  | none =>
    have hx := (hks ks[0]).1 (List.getElem_mem hne)
    rw [hm] at hx
    cases hx
  | some mb =>
    obtain ⟨_, _, _, D, hown, hH⟩ := hm
    have hC : Collected D (fun _ => false) ks := ⟨hnd, fun x => by
      rw [hks x]
      have hx := hH.2 ⟨List.toArray x⟩
      have hk : keyT ⟨List.toArray x⟩ = .string x := by simp [keyT]
      cases he : env ⟨List.toArray x⟩ with
      | none => rw [he] at hx; rw [hk] at hx; simp [hx]
      | some a => rw [he] at hx; obtain ⟨v, hv, _⟩ := hx; rw [hk] at hv; simp [hv]⟩
    have hP := hC.perm hown (Maps.string_keyed Tryz.underlying9) Tryz.underlying9 (fun _ => rfl)
    have hsz : Maps.size D = ks.length := by
      obtain ⟨es, rfl⟩ := hH.1
      rw [hP.length_eq]
      simp [strKeys, size_eq]
    refine (names_any db mb N D selfE w c1 hown (by rw [hsz]; unfold maxLen; omega) (by rw [hsz]; omega)).mono ?_
    rintro e w' ⟨v, ss, rfl, hS, hrow, hb⟩
    have hl : ss.length = ks.length := (hS.trans hP.symm).length_eq
    have hms : ss.mergeSort leB = ks := (mergeSort_of_perm (hS.trans hP.symm)).trans hso
    have hrow' : w'.ownsRow (w.heap.size + 1) 9 1 v ss.length (ks.map encStr) := by
      rw [← hms]
      exact hrow
    rw [hl] at hrow'
    have hr2 := hrow'
    obtain ⟨_, ⟨rfl, hz⟩ | ⟨g, c, cur, rfl, r⟩⟩ := hrow'
    · omega
    · refine ⟨g, c, rfl, fun i hi => ?_, hb⟩
      rw [hr2.cellAt i (by omega)]
      simp [hi, encStr]
end Go.Proofs.YtjobgpahajhbnaaGreatDoor
namespace Go.Proofs.YtjobgpahajhbnaaGreatDoor
open Go.RowKit Go.Proofs

def f2N (t : ByteArray) : Arr → Arr → Arr × Int := if t.data.toList.headD 0 = 99 then catP else if t.data.toList.headD 0 = 100 then dropP else if t.data.toList.headD 0 = 116 then takeP else if t.data.toList.headD 0 = 43 then pairP plusF else pairP overF
theorem rowed_row (l : List Int) : rowed (rowA l) = rowA l := by
  unfold rowed
  rw [if_neg (by simp [rowA])]
theorem cat_rows {l o : List Int} (h : l.length + o.length ≤ 64) : catP (rowA l) (rowA o) = (rowA (l ++ o), 0) := by
  unfold catP
  rw [rowed_row, rowed_row]
  have hs : catSh (rowA l) (rowA o) = [l.length + o.length] := rfl
  have hf : fitsB [l.length + o.length] = true := by
    unfold fitsB
    simp [prodL, h]
  unfold catR
  rw [if_neg (by simp [rowA]), if_neg (by simp [rowA]), hs, hf, if_neg (by decide)]
  have hc : catC (rowA l).cells (rowA o).cells (lastN (rowA l).shape) (lastN (rowA o).shape) (prodL (rowA l).shape.dropLast) = l ++ o := by
    show catC l o l.length o.length 1 = l ++ o
    simp [catC, lineL, List.range_succ]
  rw [hc]
  simp [rowA]
theorem drop_rows (l o : List Int) : dropP (arrOf [(l.length : Int)]) (rowA (l ++ o)) = (rowA o, 0) := by
  unfold dropP
  rw [if_neg (by rw [rowed_row]; simp [arrOf, rowA])]
  have h : dropL ((arrOf [(l.length : Int)]).cells.headD 0) (rowA (l ++ o)).cells = o := by
    show dropL (l.length : Int) (l ++ o) = o
    unfold dropL
    rw [if_pos (by omega)]
    simp
  rw [h]
  rfl
theorem take_rows {l o : List Int} (hl : l.length ≤ 64) : takeP (arrOf [(l.length : Int)]) (rowA (l ++ o)) = (rowA l, 0) := by
  unfold takeP
  rw [if_neg (by rw [rowed_row]; simp [arrOf, rowA]), if_neg (by show ¬ (64 < (l.length : Int) ∨ (l.length : Int) < -64); omega)]
  have h : takeL ((arrOf [(l.length : Int)]).cells.headD 0) (rowA (l ++ o)).cells = l := by
    show takeL (l.length : Int) (l ++ o) = l
    unfold takeL
    rw [if_pos (by omega)]
    have e : (l.length : Int).toNat - (l ++ o).length = 0 := by simp
    rw [e]
    simp
  rw [h]
  rfl
section
variable {f1 : ByteArray → Arr → Arr × Int} {f2 : ByteArray → Arr → Arr → Arr × Int} {env : ByteArray → Option Arr}
theorem ev_name {t : ByteArray} {p c : Nat} {a : Arr} (h : env t = some a) : evalE env 1000 f1 f2 (.name t p) c = .inr (a, c) := by
  simp only [evalE, h]
theorem ev_none {t : ByteArray} {p c : Nat} (h : env t = none) : evalE env 1000 f1 f2 (.name t p) c = .inl (4, p) := by
  simp only [evalE, h]
theorem ev_num {ws : List Int} {c : Nat} : evalE env 1000 f1 f2 (.num ws) c = .inr (arrOf ws, c) := by
  simp only [evalE]
theorem ev_bin {X Y : Ex} {A B : Arr} {c c1 c2 : Nat} (e1 : evalE env 1000 f1 f2 Y c = .inr (B, c1)) (e2 : evalE env 1000 f1 f2 X c1 = .inr (A, c2)) (t : ByteArray) (q : Nat) : evalE env 1000 f1 f2 (.two t q X Y) c = payP 1000 (f2 t A B) q c2 := by
  rw [evalE, e1]
  simp only []
  rw [e2]
theorem ev_right {X Y : Ex} {c : Nat} {e : Int × Nat} (e1 : evalE env 1000 f1 f2 Y c = .inl e) (t : ByteArray) (q : Nat) : evalE env 1000 f1 f2 (.two t q X Y) c = .inl e := by
  rw [evalE, e1]
theorem ev_left {X Y : Ex} {B : Arr} {c c1 : Nat} {e : Int × Nat} (e1 : evalE env 1000 f1 f2 Y c = .inr (B, c1)) (e2 : evalE env 1000 f1 f2 X c1 = .inl e) (t : ByteArray) (q : Nat) : evalE env 1000 f1 f2 (.two t q X Y) c = .inl e := by
  rw [evalE, e1]
  simp only []
  rw [e2]
theorem rowSays_any {x : Ex} {t : List UInt8} {d c : Nat} {cs : List Int} (h : Tw d false 0 x t) (hs : t.length ≤ 200) (hd : d ≤ 8) (he : EnvOk env) (hg : Good f1 f2 x) (hev : evalE env 1000 f1 f2 x 0 = .inr (rowA cs, c)) (hl : cs.length ≤ 64) : RowSays env t cs :=
  ⟨c, fun S db N => says_plain (a := rowA cs) h hs hd he hg hev (by simp [rowA]) (by simp [rowA]; omega)⟩
end
def zT : ByteArray := ⟨#[122]⟩
def qT : ByteArray := ⟨#[113]⟩
section
variable {env : ByteArray → Option Arr}
theorem ev_cat {l o : List Int} (hx : env xT = some (rowA l)) (hy : env yT = some (rowA o)) (h : l.length + o.length ≤ 64) (p q r : Nat) : evalE env 1000 f1F f2N (.two ⟨#[99, 97, 116]⟩ q (.name xT p) (.name yT r)) 0 = .inr (rowA (l ++ o), 0 + (1 + (l ++ o).length)) := by
  rw [ev_bin (ev_name hy) (ev_name hx)]
  have : f2N ⟨#[99, 97, 116]⟩ = catP := rfl
  rw [this, cat_rows h, pay_more rfl (by simp [rowA]; omega) (by omega)]
  rfl
theorem line_cat {l o : List Int} (he : EnvOk env) (hx : env xT = some (rowA l)) (hy : env yT = some (rowA o)) (h : l.length + o.length ≤ 64) : RowSays env [120, 32, 99, 97, 116, 32, 121] (l ++ o) :=
  rowSays_any (d := 0) (x := .two ⟨#[99, 97, 116]⟩ 2 (.name xT 0) (.name yT 6)) (Tw.two 0 0 [99, 97, 116] _ _ [120] [121] fn2_cat (Tw.name 0 0 [120] name_x) (Tw.only _ _ _ _ (Tw.name 0 6 [121] name_y))) (by simp) (by decide) he ⟨cat_two, by simp [Good, xT, ByteArray.size], by simp [Good, yT, ByteArray.size]⟩ (ev_cat hx hy h _ _ _) (by simp; omega)
theorem line_zcat {l o : List Int} (he : EnvOk env) (hx : env xT = some (rowA l)) (hy : env yT = some (rowA o)) (h : l.length + o.length ≤ 64) {db N : Nat} (hN : N < 1000) : SaysU db env N ⟨#[122, 32, 105, 115, 32, 120, 32, 99, 97, 116, 32, 121]⟩ (upd env ⟨List.toArray [122]⟩ (rowA (l ++ o))) (N + 1) [((l ++ o).length : Int)] (l ++ o) ((0 + (1 + (l ++ o).length) : Nat) : Int) :=
  says_named (d := 0) (x := .two ⟨#[99, 97, 116]⟩ 7 (.name xT 5) (.name yT 11)) (t := [120, 32, 99, 97, 116, 32, 121]) name_z (Tw.two 0 5 [99, 97, 116] _ _ [120] [121] fn2_cat (Tw.name 0 5 [120] name_x) (Tw.only _ _ _ _ (Tw.name 0 11 [121] name_y))) (by simp) (by decide) hN he ⟨cat_two, by simp [Good, xT, ByteArray.size], by simp [Good, yT, ByteArray.size]⟩ (ev_cat hx hy h _ _ _) (by simp [rowA]) (by simp [rowA]; omega)
theorem line_x {o : List Int} (he : EnvOk env) (hx : env xT = some (rowA o)) (h : o.length ≤ 64) : RowSays env [120] o :=
  rowSays_any (f1 := f1F) (f2 := f2N) (d := 0) (x := .name xT 0) (Tw.only _ _ _ _ (Tw.name 0 0 [120] name_x)) (by simp) (by decide) he (by simp [Good, xT, ByteArray.size]) (ev_name hx) h
theorem line_y {o : List Int} (he : EnvOk env) (hx : env yT = some (rowA o)) (h : o.length ≤ 64) : RowSays env [121] o :=
  rowSays_any (f1 := f1F) (f2 := f2N) (d := 0) (x := .name yT 0) (Tw.only _ _ _ _ (Tw.name 0 0 [121] name_y)) (by simp) (by decide) he (by simp [Good, yT, ByteArray.size]) (ev_name hx) h
theorem line_drop {l o : List Int} (he : EnvOk env) (hz : env zT = some (rowA (l ++ o))) (hl : l.length ≤ 30) (ho : o.length ≤ 30) {t : List UInt8} (hn : Nm (l.length : Int) t) (htl : t.length ≤ 20) : RowSays env (t ++ [32, 100, 114, 111, 112, 32, 122]) o := by
  refine rowSays_any (f1 := f1F) (f2 := f2N) (d := 0) (x := .two ⟨#[100, 114, 111, 112]⟩ (t.length + 1) (.num [(l.length : Int)]) (.name zT (t.length + 1 + 4 + 1))) ?_ (by simp; omega) (by decide) he ⟨drop_two, ⟨by simp, by simp, by intro c hc; simp at hc; subst hc; unfold fit64; omega⟩, by simp [Good, zT, ByteArray.size]⟩ (c := 0 + (1 + o.length)) ?_ (by omega)
  · have := Tw.two 0 0 [100, 114, 111, 112] _ _ t [122] fn2_drop (Tw.row 0 0 [(l.length : Int)] t (NmRow.one _ t hn)) (Tw.only _ _ _ _ (Tw.name 0 (0 + t.length + 1 + 4 + 1) [122] name_z))
    rw [Nat.zero_add] at this
    exact this
  · rw [ev_bin (ev_name hz) ev_num]
    have : f2N ⟨#[100, 114, 111, 112]⟩ = dropP := rfl
    rw [this, drop_rows, pay_more rfl (by simp [rowA]; omega) (by omega)]
    rfl
theorem line_take {l o : List Int} (he : EnvOk env) (hz : env zT = some (rowA (l ++ o))) (hl : l.length ≤ 30) {t : List UInt8} (hn : Nm (l.length : Int) t) (htl : t.length ≤ 20) : RowSays env (t ++ [32, 116, 97, 107, 101, 32, 122]) l := by
  refine rowSays_any (f1 := f1F) (f2 := f2N) (d := 0) (x := .two ⟨#[116, 97, 107, 101]⟩ (t.length + 1) (.num [(l.length : Int)]) (.name zT (t.length + 1 + 4 + 1))) ?_ (by simp; omega) (by decide) he ⟨take_two, ⟨by simp, by simp, by intro c hc; simp at hc; subst hc; unfold fit64; omega⟩, by simp [Good, zT, ByteArray.size]⟩ (c := 0 + (1 + l.length)) ?_ (by omega)
  · have := Tw.two 0 0 [116, 97, 107, 101] _ _ t [122] fn2_take (Tw.row 0 0 [(l.length : Int)] t (NmRow.one _ t hn)) (Tw.only _ _ _ _ (Tw.name 0 (0 + t.length + 1 + 4 + 1) [122] name_z))
    rw [Nat.zero_add] at this
    exact this
  · rw [ev_bin (ev_name hz) ev_num]
    have : f2N ⟨#[116, 97, 107, 101]⟩ = takeP := rfl
    rw [this, take_rows (by omega), pay_more rfl (by simp [rowA]; omega) (by omega)]
    rfl
theorem line_plus1 (he : EnvOk env) (hx : env xT = none) : ∀ S db N, Says (DkE S db env N) db ⟨List.toArray [121, 32, 43, 32, 120]⟩ 4 ((4 : Nat) : Int) [] [] 0 := fun S db N =>
  says_fails (d := 0) (x := .two ⟨#[43]⟩ 2 (.name yT 0) (.name xT 4)) (f1 := f1F) (f2 := f2N) (Tw.two 0 0 [43] _ _ [121] [120] fn2_plus (Tw.name 0 0 [121] name_y) (Tw.only _ _ _ _ (Tw.name 0 4 [120] name_x))) (by simp) (by decide) he ⟨plus_two, by simp [Good, yT, ByteArray.size], by simp [Good, xT, ByteArray.size]⟩ (ev_right (ev_none hx) _ _) (by decide)
theorem line_plus2 {a : Arr} (he : EnvOk env) (hx : env xT = some a) (hy : env yT = none) : ∀ S db N, Says (DkE S db env N) db ⟨List.toArray [121, 32, 43, 32, 120]⟩ 4 ((0 : Nat) : Int) [] [] 0 := fun S db N =>
  says_fails (d := 0) (x := .two ⟨#[43]⟩ 2 (.name yT 0) (.name xT 4)) (f1 := f1F) (f2 := f2N) (Tw.two 0 0 [43] _ _ [121] [120] fn2_plus (Tw.name 0 0 [121] name_y) (Tw.only _ _ _ _ (Tw.name 0 4 [120] name_x))) (by simp) (by decide) he ⟨plus_two, by simp [Good, yT, ByteArray.size], by simp [Good, xT, ByteArray.size]⟩ (ev_left (ev_name hx) (ev_none hy) _ _) (by decide)
theorem line_over (he : EnvOk env) : ∀ S db N, Says (DkE S db env N) db ⟨List.toArray [122, 32, 105, 115, 32, 49, 32, 37, 32, 48]⟩ 7 ((7 : Nat) : Int) [] [] 0 := fun S db N => by
  have nm1 : Nm 1 [49] := Nm.pos [49] (by decide) (by decide) (by decide) (by decide)
  refine says_fails_named (d := 0) (x := .two ⟨#[37]⟩ 7 (.num [1]) (.num [0])) (f1 := f1F) (f2 := f2N) (nm := [122]) (t := [49, 32, 37, 32, 48]) name_z (Tw.two 0 5 [37] _ _ [49] [48] fn2_over (Tw.row 0 5 [1] [49] (NmRow.one 1 [49] nm1)) (Tw.only _ _ _ _ (Tw.row 0 9 [0] [48] (NmRow.one 0 [48] nm_zero)))) (by simp) (by decide) he ⟨over_two, ⟨by simp, by simp, by intro c hc; simp at hc; subst hc; unfold fit64; omega⟩, ⟨by simp, by simp, by intro c hc; simp at hc; subst hc; unfold fit64; omega⟩⟩ ?_ (by decide)
  rw [ev_bin ev_num ev_num]
  rfl
theorem line_qq (he : EnvOk env) (hq : env qT = none) : ∀ S db N, Says (DkE S db env N) db ⟨List.toArray [113, 32, 105, 115, 32, 113]⟩ 4 ((5 : Nat) : Int) [] [] 0 := fun S db N =>
  says_fails_named (d := 0) (x := .name qT 5) (f1 := f1F) (f2 := f2N) (nm := [113]) (t := [113]) name_q (Tw.only _ _ _ _ (Tw.name 0 5 [113] name_q)) (by simp) (by decide) he (by simp [Good, qT, ByteArray.size]) (ev_none hq) (by decide)
end
end Go.Proofs.YtjobgpahajhbnaaGreatDoor
namespace Go.Proofs.YtjobgpahajhbnaaGreatDoor
open Go.RowKit Go.Proofs
attribute [local go_sem ↓] Go.wp_at_zero Go.wp_at_succ

def envZ (l o : List Int) : ByteArray → Option Arr := upd (envY l o) ⟨List.toArray [122]⟩ (rowA (l ++ o))
def envX2 (l o : List Int) : ByteArray → Option Arr := upd (envZ l o) ⟨List.toArray [120]⟩ (rowA o)
def envY2 (l o p : List Int) : ByteArray → Option Arr := upd (envX2 l o) ⟨List.toArray [121]⟩ (rowA p)
theorem envX_x (l : List Int) : envX l xT = some (rowA l) := by
  unfold envX upd
  rw [if_pos (by decide)]
theorem envX_y (l : List Int) : envX l yT = none := by
  unfold envX upd
  rw [if_neg (by decide)]
  rfl
theorem envX2_x (l o : List Int) : envX2 l o xT = some (rowA o) := by
  unfold envX2 upd
  rw [if_pos (by decide)]
theorem envX2_z (l o : List Int) : envX2 l o zT = some (rowA (l ++ o)) := by
  unfold envX2 upd
  rw [if_neg (by decide)]
  unfold envZ upd
  rw [if_pos (by decide)]
theorem envX2_q (l o : List Int) : envX2 l o qT = none := by
  unfold envX2 upd
  rw [if_neg (by decide)]
  unfold envZ upd
  rw [if_neg (by decide)]
  unfold envY upd
  rw [if_neg (by decide)]
  unfold envX upd
  rw [if_neg (by decide)]
  rfl
theorem envY2_z (l o p : List Int) : envY2 l o p zT = some (rowA (l ++ o)) := by
  unfold envY2 upd
  rw [if_neg (by decide)]
  exact envX2_z l o
theorem envY2_y (l o p : List Int) : envY2 l o p yT = some (rowA p) := by
  unfold envY2 upd
  rw [if_pos (by decide)]
def ksN : List (List UInt8) := [[120], [121], [122]]
theorem ksN_sorted : ksN.mergeSort leB = ksN := List.mergeSort_of_pairwise (by unfold ksN leB; decide)
theorem envY2_names (l o p : List Int) (x : List UInt8) : x ∈ ksN ↔ (envY2 l o p ⟨List.toArray x⟩).isSome = true := by
  unfold envY2 envX2 envZ envY envX upd env0 ksN
  by_cases h1 : x = [121]
  · subst h1; simp
  · by_cases h2 : x = [120]
    · subst h2; simp
    · by_cases h3 : x = [122]
      · subst h3; simp
      · simp [h1, h2, h3]
theorem cat_drop (t : List UInt8) : (⟨t.toArray⟩ : ByteArray) ++ ⟨#[32, 100, 114, 111, 112, 32, 122]⟩ = ⟨(t ++ [32, 100, 114, 111, 112, 32, 122]).toArray⟩ := by
  apply ba_ext
  simp
theorem cat_take (t : List UInt8) : (⟨t.toArray⟩ : ByteArray) ++ ⟨#[32, 116, 97, 107, 101, 32, 122]⟩ = ⟨(t ++ [32, 116, 97, 107, 101, 32, 122]).toArray⟩ := by
  apply ba_ext
  simp
set_option maxHeartbeats 4000000 in
set_option maxRecDepth 20000 in
theorem named_law (ao : Option Addr) (n cap : Nat) (xs : List Int) (ao2 : Option Addr) (n2 cap2 : Nat) (ys : List Int) (w : World) (hE : Evs w) (hr : RawIn w ao xs) (hn : xs.length = n) (hlt : 0 < n → ∀ b off, ao = some ⟨b, off, none⟩ → b < w.heap.size) (hr2 : RawIn w ao2 ys) (hn2 : ys.length = n2) (hlt2 : 0 < n2 → ∀ b off, ao2 = some ⟨b, off, none⟩ → b < w.heap.size) :
    Calls Tryz.prog 11 #[.slice ao n cap, .slice ao2 n2 cap2] w fun e w' => e = .returned (.bool true) ∧ Below w.heap.size w w' := by
  have HD1 := hide (desk_new hE)
  obtain ⟨W1, hW1⟩ : ∃ W1, w.alloc (.cells #[.int .i64 1000, .map none] 91) = W1 := ⟨_, rfl⟩
  have hb1 : Below w.heap.size w W1 := by rw [← hW1]; exact (Below.refl _ _).alloc (Nat.le_refl _) _
  rw [hW1] at HD1
  have hr1 : RawIn W1 ao xs := ⟨hr.1, fun h0 => by
    obtain ⟨b, off, e, hc⟩ := hr.2 h0
    exact ⟨b, off, e, fun i hi => (hb1.cell (p := ⟨b, off + i, none⟩) (hlt (by omega) b off e)).trans (hc i hi)⟩⟩
  have HS1 := hide (small_any ao n cap xs 20 (by decide) W1 hr1 hn (fun h0 b off e => Nat.lt_of_lt_of_le (hlt h0 b off e) hb1.size))
  have HS2 : Hid (∀ w', Below w.heap.size w w' → Calls Tryz.prog 22 #[.slice ao2 n2 cap2, .int .i64 (20 : Nat)] w' fun e w'' => ∃ v, e = .returned v ∧ ∃ l, OwnL w'.heap.size w'' v l ∧ l.length ≤ 20 ∧ Few l ∧ Below w'.heap.size w' w'') := hide (fun w' hb => by
    refine small_any ao2 n2 cap2 ys 20 (by decide) w' ⟨hr2.1, fun h0 => ?_⟩ hn2 (fun h0 b off e => Nat.lt_of_lt_of_le (hlt2 h0 b off e) hb.size)
    obtain ⟨b, off, e, hc⟩ := hr2.2 h0
    exact ⟨b, off, e, fun i hi => (hb.cell (p := ⟨b, off + i, none⟩) (hlt2 (by omega) b off e)).trans (hc i hi)⟩)
  have HB1 := hide hb1
  clear hE hr hn hlt hr2 hn2 hlt2 hr1 hb1
  go_enter Tryz.func11, Tryz.ntmps11
  go_wp2_with (go_at_call 15; refine (desk_any _).mono ?_; rintro e w' ⟨rfl, rfl⟩)
  try rw [hW1]
  clear hW1
  refine (unhide HS1).mono ?_
  rintro e w2 ⟨v1, rfl, l, hl1, hl2, hl3, hb2⟩
  obtain ⟨lo, lc, rfl⟩ := hl1.shape
  have HL1 := hide hl1
  have HL3 := hide hl3
  have HB2 : Hid (Below w.heap.size w w2) := hide ((unhide HB1).trans (hb2.mono (unhide HB1).size))
  have HB12 := hide hb2
  clear hl1 hl3 hb2 HS1
  go_wp2_with fail
  refine (unhide HS2 _ (unhide HB2)).mono ?_
  rintro e w3 ⟨v2, rfl, o, ho1, ho2, ho3, hb3⟩
  obtain ⟨oo, oc, rfl⟩ := ho1.shape
  have HO3 := hide ho3
  have HB3 : Hid (Below w.heap.size w w3) := hide ((unhide HB2).trans (hb3.mono (unhide HB2).size))
  have hb13 : Below W1.heap.size W1 w3 := (unhide HB12).trans (hb3.mono (unhide HB12).size)
  have HDk := hide ((unhide HD1).more hb13)
  obtain ⟨S, hS⟩ : ∃ S, (fun b => (6 ≤ b ∧ b < w.heap.size) ∨ (W1.heap.size ≤ b ∧ b < w3.heap.size)) = S := ⟨_, rfl⟩
  have hSl : ∀ b, 6 ≤ b → b < w.heap.size → S b := fun b h1 h2 => by rw [← hS]; exact Or.inl ⟨h1, h2⟩
  rw [hS] at HDk
  have hs12 := (unhide HB12).size
  have hs23 := hb3.size
  have HNL : Hid (Nums S w3 (.slice lo l.length lc) l) := hide (((unhide HL1).nums.imp (Q := S) (fun b h _ => by rw [← hS]; exact Or.inr ⟨h.1, by omega⟩)).below hb3)
  have HNO : Hid (Nums S w3 (.slice oo o.length oc) o) := hide (ho1.nums.imp (Q := S) (fun b h _ => by rw [← hS]; exact Or.inr ⟨by omega, h.2⟩))
  have HSl := hide hSl
  obtain ⟨db, hdb⟩ : ∃ db, w.heap.size = db := ⟨_, rfl⟩
  rw [hdb] at HDk
  have HDB := hide hdb
  have hfl := few_fit (unhide HL3)
  have hfo := few_fit ho3
  have hoX : EnvOk (envX l) := envX_ok (by omega) hfl
  have hoY : EnvOk (envY l o) := envY_ok (by omega) hfl (by omega) hfo
  have hflo : ∀ c ∈ l ++ o, fit64 c := fun c hc => by rcases List.mem_append.1 hc with h | h; exact hfl c h; exact hfo c h
  have hoZ : EnvOk (envZ l o) := hoY.upd _ (rowA_ok (by simp; omega) hflo)
  have hoX2 : EnvOk (envX2 l o) := hoZ.upd _ (rowA_ok (by omega) hfo)
  have hoY2 : EnvOk (envY2 l o [3, 3]) := hoX2.upd _ (rowA_ok (by simp) (by intro c hc; simp at hc; subst hc; unfold fit64; omega))
  have HOX := hide hoX
  have HOY := hide hoY
  have HOZ := hide hoZ
  have HOX2 := hide hoX2
  have HOY2 := hide hoY2
  clear ho1 ho3 hb3 hb13 hS hSl HS2 HB12 HD1 hs12 hs23 HL1 hfl hfo hoX hoY hflo hoZ hoX2 hoY2
  rw [hdb] at HB3 HSl ⊢
  clear HB1 HB2
  go_wp2_with fail
  clear hdb
  refine (fail_line (line_plus1 env0_ok rfl) (unhide HDk)).mono ?_
  rintro e w4 ⟨rfl, hb4⟩
  have HD4 := hide ((unhide HDk).below hb4)
  have HB4 : Hid (Below db w w4) := hide ((unhide HB3).trans (hb4.mono (by have := (unhide HDk).low; omega)))
  have HNL4 := hide ((unhide HNL).below hb4)
  have HNO4 := hide ((unhide HNO).below hb4)
  clear hb4 HDk HB3 HNL HNO
  go_wp2_with fail
  refine (set_any S db env0 0 [120] name_x (by decide) w4 (unhide HD4) (by decide) env0_ok lo l.length lc l (unhide HNL4) (by omega) (unhide HL3)).mono ?_
  rintro e w5 ⟨rfl, hd5, hk5⟩
  have HD5 : Hid (DkE S db (envX l) 1 w5) := hide hd5
  have HB5 : Hid (Below db w w5) := hide ((unhide HB4).trans (hk5.whole (by have := (unhide HD4).low; omega) (unhide HSl)))
  have HNL5 := hide (hk5.nums (unhide HNL4) (fun _ h => h))
  have HNO5 := hide (hk5.nums (unhide HNO4) (fun _ h => h))
  clear hd5 hk5 HD4 HB4 HNL4 HNO4
  go_wp2_with fail
  refine (fail_line (line_plus2 (unhide HOX) (envX_x l) (envX_y l)) (unhide HD5)).mono ?_
  rintro e w6 ⟨rfl, hb6⟩
  have HD6 := hide ((unhide HD5).below hb6)
  have HB6 : Hid (Below db w w6) := hide ((unhide HB5).trans (hb6.mono (by have := (unhide HD5).low; omega)))
  have HNL6 := hide ((unhide HNL5).below hb6)
  have HNO6 := hide ((unhide HNO5).below hb6)
  clear hb6 HD5 HB5 HNL5 HNO5
  go_wp2_with fail
  refine (set_any S db (envX l) 1 [121] name_y (by decide) w6 (unhide HD6) (by decide) (unhide HOX) oo o.length oc o (unhide HNO6) (by omega) (unhide HO3)).mono ?_
  rintro e w7 ⟨rfl, hd7, hk7⟩
  have HD7 : Hid (DkE S db (envY l o) 2 w7) := hide hd7
  have HB7 : Hid (Below db w w7) := hide ((unhide HB6).trans (hk7.whole (by have := (unhide HD6).low; omega) (unhide HSl)))
  have HNL7 := hide (hk7.nums (unhide HNL6) (fun _ h => h))
  have HNO7 := hide (hk7.nums (unhide HNO6) (fun _ h => h))
  clear hd7 hk7 HD6 HB6 HNL6 HNO6
  go_wp2_with fail
  obtain ⟨cost, hcat⟩ := line_cat (unhide HOY) (envY_x l o) (envY_y l o) (by omega)
  refine (like_any S db (envY l o) (envZ l o) 2 3 _ _ _ _ cost _ (fun S => hcat S db 2) (line_zcat (unhide HOY) (envY_x l o) (envY_y l o) (by omega) (by decide)) w7 (unhide HD7) (by simp) (by simp; omega)).mono ?_
  rintro e w8 ⟨rfl, hd8, hk8⟩
  have HD8 := hide hd8
  have HB8 : Hid (Below db w w8) := hide ((unhide HB7).trans (hk8.whole (by have := (unhide HD7).low; omega) (unhide HSl)))
  have HNL8 := hide (hk8.nums (unhide HNL7) (fun _ h => h))
  have HNO8 := hide (hk8.nums (unhide HNO7) (fun _ h => h))
  clear hcat hd8 hk8 HD7 HB7 HNL7 HNO7
  go_wp2_with fail
  refine (set_any S db (envZ l o) 3 [120] name_x (by decide) w8 (unhide HD8) (by decide) (unhide HOZ) oo o.length oc o (unhide HNO8) (by omega) (unhide HO3)).mono ?_
  rintro e w9 ⟨rfl, hd9, hk9⟩
  have HD9 : Hid (DkE S db (envX2 l o) 4 w9) := hide hd9
  have HB9 : Hid (Below db w w9) := hide ((unhide HB8).trans (hk9.whole (by have := (unhide HD8).low; omega) (unhide HSl)))
  have HNL9 := hide (hk9.nums (unhide HNL8) (fun _ h => h))
  have HNO9 := hide (hk9.nums (unhide HNO8) (fun _ h => h))
  clear hd9 hk9 HD8 HB8 HNL8 HNO8
  go_wp2_with fail
  refine (row_line (line_x (unhide HOX2) (envX2_x l o) (by omega)) (unhide HD9) (unhide HNO9) (by omega)).mono ?_
  rintro e w10 ⟨rfl, hb10⟩
  have HD10 := hide ((unhide HD9).below hb10)
  have HB10 : Hid (Below db w w10) := hide ((unhide HB9).trans (hb10.mono (by have := (unhide HD9).low; omega)))
  have HNL10 := hide ((unhide HNL9).below hb10)
  have HNO10 := hide ((unhide HNO9).below hb10)
  clear hb10 HD9 HB9 HNL9 HNO9
  obtain ⟨hnm, hnl⟩ := numT_nm (i := l.length) (by omega)
  have HNM := hide hnm
  have HNUM := hide (fun w' => numT_any l.length (by omega) w')
  have hnl2 : (Lib.decDigits l.length).length ≤ 200 := by omega
  have HZ1 : Hid (∀ w', DkE S db (envX2 l o) 4 w' → Nums S w' (.slice oo o.length oc) o → Calls Tryz.prog 19 #[.pointer (some ⟨db, 0, none⟩), .string ((⟨(Lib.decDigits l.length).toArray⟩ : ByteArray) ++ ⟨#[32, 100, 114, 111, 112, 32, 122]⟩), .slice oo o.length oc] w' fun e w'' => e = .returned (.bool true) ∧ Below w'.heap.size w' w'') := hide (fun w' hD hN => by
    rw [cat_drop]
    exact row_line (line_drop (unhide HOX2) (envX2_z l o) (by omega) (by omega) (unhide HNM) (by omega)) hD hN (by omega))
  have HZ2 : Hid (∀ env N S w', EnvOk env → env zT = some (rowA (l ++ o)) → DkE S db env N w' → ∀ Q, Nums Q w' (.slice lo l.length lc) l → Calls Tryz.prog 19 #[.pointer (some ⟨db, 0, none⟩), .string ((⟨(Lib.decDigits l.length).toArray⟩ : ByteArray) ++ ⟨#[32, 116, 97, 107, 101, 32, 122]⟩), .slice lo l.length lc] w' fun e w'' => e = .returned (.bool true) ∧ Below w'.heap.size w' w'') := hide (fun env N S w' he hz hD Q hN => by
    rw [cat_take]
    exact row_line (line_take he hz (by omega) (unhide HNM) (by omega)) hD hN (by omega))
  clear hnm hnl
  go_wp2_with (go_at_call 26; refine (unhide HNUM _).mono ?_; rintro e w' ⟨rfl, rfl⟩)
  refine (unhide HZ1 _ (unhide HD10) (unhide HNO10)).mono ?_
  rintro e w11 ⟨rfl, hb11⟩
  have HD11 := hide ((unhide HD10).below hb11)
  have HB11 : Hid (Below db w w11) := hide ((unhide HB10).trans (hb11.mono (by have := (unhide HD10).low; omega)))
  have HNL11 := hide ((unhide HNL10).below hb11)
  clear hb11 HD10 HB10 HNL10 HNO10 HZ1
  go_wp2_with (go_at_call 26; refine (unhide HNUM _).mono ?_; rintro e w' ⟨rfl, rfl⟩)
  refine (unhide HZ2 _ _ _ _ (unhide HOX2) (envX2_z l o) (unhide HD11) _ (unhide HNL11)).mono ?_
  rintro e w12 ⟨rfl, hb12⟩
  have HD12 := hide ((unhide HD11).below hb12)
  have HB12 : Hid (Below db w w12) := hide ((unhide HB11).trans (hb12.mono (by have := (unhide HD11).low; omega)))
  have HNL12 := hide ((unhide HNL11).below hb12)
  clear hb12 HD11 HB11 HNL11
  go_wp2_with fail
  refine (fail_line (line_over (unhide HOX2)) (unhide HD12)).mono ?_
  rintro e w13 ⟨rfl, hb13⟩
  have HD13 := hide ((unhide HD12).below hb13)
  have HB13 : Hid (Below db w w13) := hide ((unhide HB12).trans (hb13.mono (by have := (unhide HD12).low; omega)))
  have HNL13 := hide ((unhide HNL12).below hb13)
  clear hb13 HD12 HB12 HNL12
  go_wp2_with fail
  refine (fail_line (line_qq (unhide HOX2) (envX2_q l o)) (unhide HD13)).mono ?_
  rintro e w14 ⟨rfl, hb14⟩
  have HD14 := hide ((unhide HD13).below hb14)
  have HB14 : Hid (Below db w w14) := hide ((unhide HB13).trans (hb14.mono (by have := (unhide HD13).low; omega)))
  have HNL14 := hide ((unhide HNL13).below hb14)
  clear hb14 HD13 HB13 HNL13
  go_wp2_with fail
  have hb15 : Below w14.heap.size w14 (w14.alloc (.cells #[.int .i64 3, .int .i64 3] 2)) := (Below.refl _ _).alloc (Nat.le_refl _) _
  obtain ⟨w15, hw15⟩ : ∃ w15, w14.alloc (.cells #[.int .i64 3, .int .i64 3] 2) = w15 := ⟨_, rfl⟩
  have hN33 : Nums (fun b => w14.heap.size ≤ b ∧ b < w15.heap.size) w15 (.slice (some ⟨w14.heap.size, 0, none⟩) 2 2) [3, 3] := by
    rw [← hw15]
    refine ⟨_, 2, rfl, by simp, fun _ => ⟨w14.heap.size, 0, rfl, ⟨by omega, by simp⟩, by simp, fun i hi => ?_⟩, fun a h => by cases h; rfl⟩
    match i, hi with
    | 0, _ => exact (World.cell?_alloc_at _ _ _ _ rfl).trans rfl
    | 1, _ => exact (World.cell?_alloc_at _ _ _ _ rfl).trans rfl
    | i + 2, hi => exact absurd hi (by simp)
  rw [hw15] at hb15 ⊢
  clear hw15
  have hM := (unhide HD14).more hb15
  obtain ⟨S3, hS3⟩ : ∃ S3, (fun b => S b ∨ (w14.heap.size ≤ b ∧ b < w15.heap.size)) = S3 := ⟨_, rfl⟩
  rw [hS3] at hM
  have HN33 := hide (hN33.imp (Q := S3) (fun b h _ => by rw [← hS3]; exact Or.inr h))
  have HNL15 := hide (((unhide HNL14).below hb15).imp (Q := S3) (fun b h _ => by rw [← hS3]; exact Or.inl h))
  have HSl3 : Hid (∀ b, 6 ≤ b → b < db → S3 b) := hide (fun b h1 h2 => by rw [← hS3]; exact Or.inl (unhide HSl b h1 h2))
  have HB15 : Hid (Below db w w15) := hide ((unhide HB14).trans (hb15.mono (by have := (unhide HD14).low; omega)))
  have HD15 := hide hM
  clear hb15 hN33 hM hS3 HD14 HB14 HNL14 HSl
  refine (set_any S3 db (envX2 l o) 4 [121] name_y (by decide) w15 (unhide HD15) (by decide) (unhide HOX2) _ 2 2 [3, 3] (unhide HN33) (by simp) (by intro c hc; simp at hc; subst hc; omega)).mono ?_
  rintro e w16 ⟨rfl, hd16, hk16⟩
  have HD16 : Hid (DkE S3 db (envY2 l o [3, 3]) 5 w16) := hide hd16
  have HB16 : Hid (Below db w w16) := hide ((unhide HB15).trans (hk16.whole (by have := (unhide HD15).low; omega) (unhide HSl3)))
  have HNL16 := hide (hk16.nums (unhide HNL15) (fun _ h => h))
  clear hd16 hk16 HD15 HB15 HNL15 HN33 HSl3
  go_wp2_with fail
  refine (names_u (unhide HD16) ksN (by decide) (envY2_names l o [3, 3]) (by decide) ksN_sorted (by decide)).mono ?_
  rintro e w17 ⟨g, c, rfl, hcell, hb17⟩
  have k0 : w17.cell? ⟨g, 0, none⟩ = some (.string ⟨#[120]⟩) := hcell 0 (by decide)
  have k1 : w17.cell? ⟨g, 1, none⟩ = some (.string ⟨#[121]⟩) := hcell 1 (by decide)
  have k2 : w17.cell? ⟨g, 2, none⟩ = some (.string ⟨#[122]⟩) := hcell 2 (by decide)
  have hk3 : ksN.length = 3 := rfl
  rw [hk3]
  have HD17 := hide ((unhide HD16).below hb17)
  have HB17 : Hid (Below db w w17) := hide ((unhide HB16).trans (hb17.mono (by have := (unhide HD16).low; omega)))
  have HNL17 := hide ((unhide HNL16).below hb17)
  clear hcell hk3 hb17 HD16 HB16 HNL16
  go_wp2_with (go_at_call 26; refine (unhide HNUM _).mono ?_; rintro e w' ⟨rfl, rfl⟩)
  refine (unhide HZ2 _ _ _ _ (unhide HOY2) (envY2_z l o [3, 3]) (unhide HD17) _ (unhide HNL17)).mono ?_
  rintro e w18 ⟨rfl, hb18⟩
  have HD18 := hide ((unhide HD17).below hb18)
  have HB18 : Hid (Below db w w18) := hide ((unhide HB17).trans (hb18.mono (by have := (unhide HD17).low; omega)))
  clear hb18 HD17 HB17 HNL17 HZ2 k0 k1 k2
  go_wp2_with fail
  have hb19 : Below w18.heap.size w18 (w18.alloc (.cells #[.int .i64 3, .int .i64 3] 2)) := (Below.refl _ _).alloc (Nat.le_refl _) _
  obtain ⟨w19, hw19⟩ : ∃ w19, w18.alloc (.cells #[.int .i64 3, .int .i64 3] 2) = w19 := ⟨_, rfl⟩
  have hN33 : Nums (fun _ => True) w19 (.slice (some ⟨w18.heap.size, 0, none⟩) 2 2) [3, 3] := by
    rw [← hw19]
    refine ⟨_, 2, rfl, by simp, fun _ => ⟨w18.heap.size, 0, rfl, trivial, by simp, fun i hi => ?_⟩, fun a h => by cases h; rfl⟩
    match i, hi with
    | 0, _ => exact (World.cell?_alloc_at _ _ _ _ rfl).trans rfl
    | 1, _ => exact (World.cell?_alloc_at _ _ _ _ rfl).trans rfl
    | i + 2, hi => exact absurd hi (by simp)
  rw [hw19] at hb19 ⊢
  clear hw19
  have hD19 := (unhide HD18).below hb19
  have HB19 : Hid (Below db w w19) := hide ((unhide HB18).trans (hb19.mono (by have := (unhide HD18).low; omega)))
  refine (row_line (line_y (unhide HOY2) (envY2_y l o [3, 3]) (by simp)) hD19 hN33 (by simp)).mono ?_
  rintro e w20 ⟨rfl, hb20⟩
  have HB20 : Hid (Below db w w20) := hide ((unhide HB19).trans (hb20.mono (by have := hD19.low; omega)))
  clear hb20 hb19 hD19 hN33 HD18 HB18 HB19
  go_wp2_with fail
  exact bodyPost_ret (v := .bool true) (by simp [results, Tryz.results11, go_sem]) rfl ⟨rfl, by rw [unhide HDB]; exact unhide HB20⟩
end Go.Proofs.YtjobgpahajhbnaaGreatDoor
