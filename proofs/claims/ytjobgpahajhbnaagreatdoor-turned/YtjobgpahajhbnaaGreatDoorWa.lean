import Derived.Test.YtjobgpahajhbnaaGreatDoorProg
import Derived.WalkKit
import Derived.WalkSpells
import Derived.WalkLawsBesides
namespace Go.Proofs.YtjobgpahajhbnaaGreatDoor
open Go.RowKit

def digB (c : Int) : Bool := decide (48 ≤ c ∧ c ≤ 57)
def letB (c : Int) : Bool := decide (97 ≤ c ∧ c ≤ 122)
def sgnB (c : Int) : Bool := decide (c = 43 ∨ c = 45 ∨ c = 42 ∨ c = 37 ∨ c = 124 ∨ c = 38 ∨ c = 33 ∨ c = 61 ∨ c = 60)
/-- is a text one of these? -/
def amid (L : List ByteArray) (t : ByteArray) : Bool := L.any fun x => x.toList == t.toList
def fnL : List ByteArray := [⟨#[105, 111, 116, 97]⟩, ⟨#[114, 104, 111]⟩, ⟨#[114, 101, 118]⟩, ⟨#[117, 112]⟩, ⟨#[100, 111, 119, 110]⟩, ⟨#[102, 108, 105, 112]⟩, ⟨#[114, 97, 118, 101, 108]⟩, ⟨#[116, 97, 107, 101]⟩, ⟨#[100, 114, 111, 112]⟩, ⟨#[99, 97, 116]⟩, ⟨#[105, 110]⟩, ⟨#[97, 116]⟩, ⟨#[107, 101, 101, 112]⟩]

theorem hide {p : Prop} (h : p) : Hid p := h
theorem unhide {p : Prop} (h : Hid p) : p := h.out
theorem ret_bool {a b : Bool} (h : a = b) : Ending.returned (.bool a) = .returned (.bool b) := by rw [h]
theorem ret_int {k : IntKind} {a b : Int} (h : a = b) : Ending.returned (.int k a) = .returned (.int k b) := by rw [h]
theorem bcell {W w1 : World} (hb : Below W.heap.size W w1) : (∀ b o, b < W.heap.size → w1.cell? ⟨b, o, none⟩ = W.cell? ⟨b, o, none⟩) ∧ (∀ b o, b < W.heap.size → w1.frozen? ⟨b, o, none⟩ = W.frozen? ⟨b, o, none⟩) :=
  ⟨fun b o h => hb.cell (p := ⟨b, o, none⟩) h, fun b o h => hb.frozen (p := ⟨b, o, none⟩) h⟩

set_option maxHeartbeats 400000 in
theorem digit_any (c : Int) (w : World) :
    Calls Tryz.prog 160 #[.int .u8 c] w fun e w' => e = .returned (.bool (digB c)) ∧ w' = w := by
  by_cases h : 48 ≤ c
  all_goals
    go_enter Tryz.func160, Tryz.ntmps160
    go_wp2
    go_ret
    refine ⟨?_, rfl⟩
    unfold digB
    congr 2
    simp; try omega

set_option maxHeartbeats 400000 in
theorem letter_any (c : Int) (w : World) :
    Calls Tryz.prog 116 #[.int .u8 c] w fun e w' => e = .returned (.bool (letB c)) ∧ w' = w := by
  by_cases h : 97 ≤ c
  all_goals
    go_enter Tryz.func116, Tryz.ntmps116
    go_wp2
    go_ret
    refine ⟨?_, rfl⟩
    unfold letB
    congr 2
    simp; try omega

set_option maxHeartbeats 400000 in
theorem functions_any (w : World) :
    Calls Tryz.prog 115 #[] w fun e w' => ∃ b, e = .returned (.slice (some ⟨b, 0, none⟩) 13 13) ∧ (∀ i, (h : i < fnL.length) → w'.cell? ⟨b, i, none⟩ = some (.string fnL[i])) ∧ Below w.heap.size w w' := by
  go_enter Tryz.func115, Tryz.ntmps115
  go_wp2
  go_ret
  refine ⟨w.heap.size, rfl, ?_, (Below.refl _ _).alloc (Nat.le_refl _) _⟩
  intro i h
  simp [fnL] at h
  match i, h with
  | 0, _ | 1, _ | 2, _ | 3, _ | 4, _ | 5, _ | 6, _ | 7, _ | 8, _ | 9, _ | 10, _ | 11, _ | 12, _ => simp [fnL]

theorem amid_no {L : List ByteArray} {t : ByteArray} (h : ∀ j, (hj : j < L.length) → (L[j].toList == t.toList) = false) : amid L t = false := by
  unfold amid
  rw [List.any_eq_false]
  intro x hx
  obtain ⟨j, hj, rfl⟩ := List.getElem_of_mem hx
  rw [h j hj]; simp
theorem amid_yes {L : List ByteArray} {t : ByteArray} (j : Nat) (hj : j < L.length) (h : (L[j].toList == t.toList) = true) : amid L t = true := by
  unfold amid
  rw [List.any_eq_true]
  exact ⟨L[j], List.getElem_mem hj, h⟩

set_option maxHeartbeats 400000 in
theorem in_any (t : ByteArray) (L : List ByteArray) (n : Nat) (cap : Nat) (b : Nat) (w : World) (hn : n = L.length) (hl : n ≤ 100)
    (hc : ∀ i, (h : i < L.length) → w.cell? ⟨b, i, none⟩ = some (.string L[i])) :
    Calls Tryz.prog 114 #[.string t, .slice (some ⟨b, 0, none⟩) n cap] w fun e w' => e = .returned (.bool (amid L t)) ∧ w' = w := by
  have HN : Hid (n = L.length) := hn
  clear hn
  go_enter Tryz.func114, Tryz.ntmps114
  go_wp2
  go_loop [5] (fun i => ∃ k : Nat, k ≤ n ∧ i = .int .i64 k ∧ ∀ j, (hj : j < L.length) → j < k → (L[j].toList == t.toList) = false) (fun i => n - (intOf i).toNat)
  case atStart => exact ⟨0, Nat.zero_le _, rfl, fun j _ h => absurd h (by omega)⟩
  case round =>
    obtain ⟨k, hk, rfl, hno⟩ := hrel
    have HNo : Hid (∀ j, (hj : j < L.length) → j < k → (L[j].toList == t.toList) = false) := hno
    clear hno
    by_cases hlt : k < n
    · have hkl : k < L.length := HN.out ▸ hlt
      have hck := hc k hkl
      clear hc
      go_wp2
      · go_ret
        exact ⟨ret_bool (amid_yes k hkl (by assumption)).symm, rfl⟩
      · have hf : (L[k].toList == t.toList) = false := by assumption
        go_round
        case rel => exact ⟨k + 1, by omega, by go_num, fun j hj h => by
          by_cases e : j = k
          · subst e; exact hf
          · exact HNo.out j hj (by omega)⟩
        case measure => simp [intOf]; omega
    · clear hc
      go_wp2
      go_ret
      exact ⟨ret_bool (amid_no (fun j hj => HNo.out j hj (by have := HN.out; omega))).symm, rfl⟩

theorem sgn_yes (k : Nat) (h : k < 9) (c : Int) (e : (((⟨#[43, 45, 42, 37, 124, 38, 33, 61, 60]⟩ : ByteArray)[k]'h).toNat == c) = true) : sgnB c = true := by
  have e := (beq_iff_eq.1 e).symm
  subst e
  match k, h with
  | 0, _ => exact (by decide : sgnB 43 = true)
  | 1, _ => exact (by decide : sgnB 45 = true)
  | 2, _ => exact (by decide : sgnB 42 = true)
  | 3, _ => exact (by decide : sgnB 37 = true)
  | 4, _ => exact (by decide : sgnB 124 = true)
  | 5, _ => exact (by decide : sgnB 38 = true)
  | 6, _ => exact (by decide : sgnB 33 = true)
  | 7, _ => exact (by decide : sgnB 61 = true)
  | 8, _ => exact (by decide : sgnB 60 = true)
theorem sgn_no (c : Int) (e : ∀ k, (h : k < 9) → (((⟨#[43, 45, 42, 37, 124, 38, 33, 61, 60]⟩ : ByteArray)[k]'h).toNat == c) = false) : sgnB c = false := by
  have h0 : (43 == c) = false := e 0 (by decide)
  have h1 : (45 == c) = false := e 1 (by decide)
  have h2 : (42 == c) = false := e 2 (by decide)
  have h3 : (37 == c) = false := e 3 (by decide)
  have h4 : (124 == c) = false := e 4 (by decide)
  have h5 : (38 == c) = false := e 5 (by decide)
  have h6 : (33 == c) = false := e 6 (by decide)
  have h7 : (61 == c) = false := e 7 (by decide)
  have h8 : (60 == c) = false := e 8 (by decide)
  simp only [beq_eq_false_iff_ne] at *
  simp only [sgnB, decide_eq_false_iff_not]
  omega

set_option maxHeartbeats 400000 in
theorem sign_any (c : Int) (w : World) :
    Calls Tryz.prog 120 #[.int .u8 c] w fun e w' => e = .returned (.bool (sgnB c)) ∧ w' = w := by
  go_enter Tryz.func120, Tryz.ntmps120
  go_wp2
  go_loop [4] (fun i => ∃ k : Nat, k ≤ 9 ∧ i = .int .i64 k ∧ ∀ j, (hj : j < 9) → j < k → (((⟨#[43, 45, 42, 37, 124, 38, 33, 61, 60]⟩ : ByteArray)[j]'hj).toNat == c) = false) (fun i => 9 - (intOf i).toNat)
  case atStart => exact ⟨0, Nat.zero_le _, rfl, fun j _ h => absurd h (by omega)⟩
  case round =>
    obtain ⟨k, hk, rfl, hno⟩ := hrel
    have HNo : Hid (∀ j, (hj : j < 9) → j < k → (((⟨#[43, 45, 42, 37, 124, 38, 33, 61, 60]⟩ : ByteArray)[j]'hj).toNat == c) = false) := hno
    clear hno
    by_cases hlt : k < 9
    · go_wp2
      · go_ret
        exact ⟨ret_bool (sgn_yes k hlt c (by assumption)).symm, rfl⟩
      · have hf : (((⟨#[43, 45, 42, 37, 124, 38, 33, 61, 60]⟩ : ByteArray)[k]'hlt).toNat == c) = false := by assumption
        go_round
        case rel => exact ⟨k + 1, by omega, by go_num, fun j hj h => by
          by_cases e : j = k
          · subst e; exact hf
          · exact HNo.out j hj (by omega)⟩
        case measure => simp [intOf]; omega
    · go_wp2
      go_ret
      exact ⟨ret_bool (sgn_no c (fun j hj => HNo.out j hj (by omega))).symm, rfl⟩

def hd (t : ByteArray) : Int := (t.data.toList.headD 0).toNat
theorem hd_eq (t : ByteArray) (h : 0 < t.size) : (t[0].toNat : Int) = hd t := by
  obtain ⟨⟨l⟩⟩ := t
  match l, h with
  | c :: l, _ => rfl
theorem ne1 (t : ByteArray) (h : 0 < t.size) : t.toList.isEmpty = false := by
  rw [ByteArray.toList_eq]
  obtain ⟨⟨l⟩⟩ := t
  match l, h with
  | c :: l, _ => rfl
theorem ne2 (t : ByteArray) (h : 0 < t.size) : ¬ t.toList = [] := by
  have := ne1 t h
  intro e
  rw [e] at this
  simp at this
def numB (t : ByteArray) : Bool := digB (hd t) || hd t == 95
def namB (t : ByteArray) : Bool := letB (hd t) && !amid fnL t && !(t.toList == [105, 115])
def funB (t : ByteArray) : Bool := amid fnL t || sgnB (hd t)

set_option maxHeartbeats 400000 in
theorem number_any (t : ByteArray) (w : World) (h0 : 0 < t.size) :
    Calls Tryz.prog 117 #[.string t] w fun e w' => e = .returned (.bool (numB t)) ∧ w' = w := by
  have hh := hd_eq t h0
  have n1 := ne1 t h0
  have n2 := ne2 t h0
  cases hb : digB (hd t)
  all_goals
    have HB := hide hb
    go_enter Tryz.func117, Tryz.ntmps117
    go_wp2_with (go_at_call 160; refine (digit_any _ _).mono ?_; rintro e w' ⟨rfl, rfl⟩)
    go_ret
    exact ⟨ret_bool (by simp [numB, unhide HB]), rfl⟩

set_option maxHeartbeats 400000 in
theorem name_any (t : ByteArray) (w : World) (h0 : 0 < t.size) :
    Calls Tryz.prog 82 #[.string t] w fun e w' => e = .returned (.bool (namB t)) ∧ Below w.heap.size w w' := by
  have hh := hd_eq t h0
  have n1 := ne1 t h0
  have n2 := ne2 t h0
  cases hb : letB (hd t)
  all_goals
    cases hf : amid fnL t
    all_goals
      have HB := hide hb
      have HF := hide hf
      go_enter Tryz.func82, Tryz.ntmps82
      go_wp2_with fail
      refine (functions_any _).mono ?_
      rintro e w1 ⟨b, rfl, hcs, hbel⟩
      have HC := hide hcs
      clear hcs
      go_wp2_with fail
      refine (in_any t fnL 13 13 b _ rfl (by decide) (unhide HC)).mono ?_
      rintro e w' ⟨rfl, rfl⟩
      go_wp2_with (go_at_call 116; refine (letter_any _ _).mono ?_; rintro e w' ⟨rfl, rfl⟩)
      go_ret
      exact ⟨ret_bool (by simp [namB, unhide HB, unhide HF]), hbel⟩

set_option maxHeartbeats 400000 in
theorem function_any (t : ByteArray) (w : World) (h0 : 0 < t.size) :
    Calls Tryz.prog 85 #[.string t] w fun e w' => e = .returned (.bool (funB t)) ∧ Below w.heap.size w w' := by
  have hh := hd_eq t h0
  have n1 := ne1 t h0
  have n2 := ne2 t h0
  cases hf : amid fnL t
  all_goals
    have HF := hide hf
    go_enter Tryz.func85, Tryz.ntmps85
    go_wp2_with fail
    refine (functions_any _).mono ?_
    rintro e w1 ⟨b, rfl, hcs, hbel⟩
    have HC := hide hcs
    clear hcs
    go_wp2_with fail
    refine (in_any t fnL 13 13 b _ rfl (by decide) (unhide HC)).mono ?_
    rintro e w' ⟨rfl, rfl⟩
    go_wp2_with (go_at_call 120; refine (sign_any _ _).mono ?_; rintro e w' ⟨rfl, rfl⟩)
    go_ret
    exact ⟨ret_bool (by simp [funB, unhide HF]), hbel⟩

def loL : List ByteArray := [⟨#[43]⟩, ⟨#[45]⟩, ⟨#[42]⟩, ⟨#[124]⟩]
def biL : List ByteArray := [⟨#[114, 104, 111]⟩, ⟨#[114, 101, 118]⟩, ⟨#[116, 97, 107, 101]⟩, ⟨#[100, 114, 111, 112]⟩, ⟨#[99, 97, 116]⟩, ⟨#[105, 110]⟩, ⟨#[97, 116]⟩, ⟨#[107, 101, 101, 112]⟩]
def unL : List ByteArray := [⟨#[105, 111, 116, 97]⟩, ⟨#[114, 104, 111]⟩, ⟨#[114, 101, 118]⟩, ⟨#[117, 112]⟩, ⟨#[100, 111, 119, 110]⟩, ⟨#[102, 108, 105, 112]⟩, ⟨#[114, 97, 118, 101, 108]⟩]
def snd (t : ByteArray) : Int := (t.data.toList.tail.headD 0).toNat
theorem snd_eq (t : ByteArray) (h : 1 < t.size) : (t[1].toNat : Int) = snd t := by
  obtain ⟨⟨l⟩⟩ := t
  match l, h with
  | c :: d :: l, _ => rfl
def mayB (t : ByteArray) (b : Bool) : Bool :=
  bif sgnB (hd t) then (bif (t.size : Int) == 2 then b == (snd t == 46) else b || amid loL t) else (bif b then amid biL t else amid unL t)

set_option maxHeartbeats 400000 in
theorem may_any (t : ByteArray) (b : Bool) (w : World) (h0 : 0 < t.size) (hs : t.size ≤ 200) :
    Calls Tryz.prog 118 #[.string t, .bool b] w fun e w' => e = .returned (.bool (mayB t b)) ∧ Below w.heap.size w w' := by
  have hh := hd_eq t h0
  cases hsg : sgnB (hd t)
  · have HS := hide hsg
    cases b
    · go_enter Tryz.func118, Tryz.ntmps118
      go_wp2_with fail
      refine (sign_any _ _).mono ?_
      rintro e w' ⟨rfl, rfl⟩
      go_wp2_with fail
      refine (in_any t unL 7 7 _ _ rfl (by decide) ?_).mono ?_
      · intro i h
        simp [unL] at h
        match i, h with
        | 0, _ | 1, _ | 2, _ | 3, _ | 4, _ | 5, _ | 6, _ => simp [unL]
      rintro e w' ⟨rfl, rfl⟩
      go_wp2
      go_ret
      exact ⟨ret_bool (by simp [mayB, unhide HS]), (Below.refl _ _).alloc (Nat.le_refl _) _⟩
    · go_enter Tryz.func118, Tryz.ntmps118
      go_wp2_with fail
      refine (sign_any _ _).mono ?_
      rintro e w' ⟨rfl, rfl⟩
      go_wp2_with fail
      refine (in_any t biL 8 8 _ _ rfl (by decide) ?_).mono ?_
      · intro i h
        simp [biL] at h
        match i, h with
        | 0, _ | 1, _ | 2, _ | 3, _ | 4, _ | 5, _ | 6, _ | 7, _ => simp [biL]
      rintro e w' ⟨rfl, rfl⟩
      go_wp2
      go_ret
      exact ⟨ret_bool (by simp [mayB, unhide HS]), (Below.refl _ _).alloc (Nat.le_refl _) _⟩
  · have HS := hide hsg
    cases h2 : ((t.size : Int) == 2)
    · have H2 := hide h2
      cases b
      · go_enter Tryz.func118, Tryz.ntmps118
        go_wp2_with fail
        refine (sign_any _ _).mono ?_
        rintro e w' ⟨rfl, rfl⟩
        go_wp2_with fail
        refine (in_any t loL 4 4 _ _ rfl (by decide) ?_).mono ?_
        · intro i h
          simp [loL] at h
          match i, h with
          | 0, _ | 1, _ | 2, _ | 3, _ => simp [loL]
        rintro e w' ⟨rfl, rfl⟩
        go_wp2
        go_ret
        exact ⟨ret_bool (by simp [mayB, unhide HS, unhide H2]), (Below.refl _ _).alloc (Nat.le_refl _) _⟩
      · go_enter Tryz.func118, Tryz.ntmps118
        go_wp2_with fail
        refine (sign_any _ _).mono ?_
        rintro e w' ⟨rfl, rfl⟩
        go_wp2_with fail
        go_ret
        exact ⟨ret_bool (by simp [mayB, unhide HS, unhide H2]), Below.refl _ _⟩
    · have H2 := hide h2
      have h1 : 1 < t.size := by have := beq_iff_eq.1 h2; omega
      have hq := snd_eq t h1
      go_enter Tryz.func118, Tryz.ntmps118
      go_wp2_with fail
      refine (sign_any _ _).mono ?_
      rintro e w' ⟨rfl, rfl⟩
      go_wp2_with fail
      go_ret
      exact ⟨ret_bool (by simp [mayB, unhide HS, unhide H2]), Below.refl _ _⟩

def nxS (st : Int) (t : ByteArray) : Int :=
  bif numB t then 1 else bif namB t then 2 else bif t.toList == [40] then 0 else bif t.toList == [41] then 2 else bif funB t then 0 else st
def nxB (st : Int) (t : ByteArray) (op : Int) : Bool :=
  bif numB t then st != 2 else bif namB t then st == 0 else bif t.toList == [40] then st == 0 && decide (op < 8) else bif t.toList == [41] then st != 0 && decide (0 < op) else bif funB t then mayB t (st != 0) else false

set_option maxHeartbeats 400000 in
theorem next_any (st : Int) (t : ByteArray) (op : Int) (w : World) (h0 : 0 < t.size) (hs : t.size ≤ 200) :
    Calls Tryz.prog 83 #[.int .i64 st, .string t, .int .i64 op] w fun e w' => e = .returned (.tuple #[.int .i64 (nxS st t), .bool (nxB st t op)]) ∧ Below w.heap.size w w' := by
  cases h1 : numB t
  · cases h2 : namB t
    · cases h3 : (t.toList == [40])
      · cases h4 : (t.toList == [41])
        · cases h5 : funB t
          · have H1 := hide h1
            have H2 := hide h2
            have H3 := hide h3
            have H4 := hide h4
            have H5 := hide h5
            go_enter Tryz.func83, Tryz.ntmps83
            go_wp2_with fail
            refine (number_any _ _ h0).mono ?_
            rintro e w' ⟨rfl, rfl⟩
            go_wp2_with fail
            refine (name_any _ _ h0).mono ?_
            rintro e w1 ⟨rfl, hb1⟩
            go_wp2_with fail
            refine (function_any _ _ h0).mono ?_
            rintro e w2 ⟨rfl, hb2⟩
            go_wp2_with fail
            go_ret2
            exact ⟨by simp [nxS, nxB, unhide H1, unhide H2, unhide H3, unhide H4, unhide H5], hb1.trans (hb2.mono hb1.size)⟩
          · have H1 := hide h1
            have H2 := hide h2
            have H3 := hide h3
            have H4 := hide h4
            have H5 := hide h5
            go_enter Tryz.func83, Tryz.ntmps83
            go_wp2_with fail
            refine (number_any _ _ h0).mono ?_
            rintro e w' ⟨rfl, rfl⟩
            go_wp2_with fail
            refine (name_any _ _ h0).mono ?_
            rintro e w1 ⟨rfl, hb1⟩
            go_wp2_with fail
            refine (function_any _ _ h0).mono ?_
            rintro e w2 ⟨rfl, hb2⟩
            go_wp2_with fail
            refine (may_any _ _ _ h0 hs).mono ?_
            rintro e w3 ⟨rfl, hb3⟩
            go_wp2_with fail
            go_ret2
            exact ⟨by simp [nxS, nxB, unhide H1, unhide H2, unhide H3, unhide H4, unhide H5], (hb1.trans (hb2.mono hb1.size)).trans (hb3.mono (Nat.le_trans hb1.size hb2.size))⟩
        · cases h5 : (st != 0)
          all_goals
            have H1 := hide h1
            have H2 := hide h2
            have H3 := hide h3
            have H4 := hide h4
            have H5 := hide h5
            go_enter Tryz.func83, Tryz.ntmps83
            go_wp2_with fail
            refine (number_any _ _ h0).mono ?_
            rintro e w' ⟨rfl, rfl⟩
            go_wp2_with fail
            refine (name_any _ _ h0).mono ?_
            rintro e w1 ⟨rfl, hb1⟩
            go_wp2_with fail
            refine (function_any _ _ h0).mono ?_
            rintro e w2 ⟨rfl, hb2⟩
            go_wp2_with fail
            go_ret2
            exact ⟨by simp [nxS, nxB, unhide H1, unhide H2, unhide H3, unhide H4, unhide H5], hb1.trans (hb2.mono hb1.size)⟩
      · cases h4 : (st == 0)
        all_goals
          have H1 := hide h1
          have H2 := hide h2
          have H3 := hide h3
          have H4 := hide h4
          go_enter Tryz.func83, Tryz.ntmps83
          go_wp2_with fail
          refine (number_any _ _ h0).mono ?_
          rintro e w' ⟨rfl, rfl⟩
          go_wp2_with fail
          refine (name_any _ _ h0).mono ?_
          rintro e w1 ⟨rfl, hb1⟩
          go_wp2_with fail
          refine (function_any _ _ h0).mono ?_
          rintro e w2 ⟨rfl, hb2⟩
          go_wp2_with fail
          go_ret2
          exact ⟨by simp [nxS, nxB, unhide H1, unhide H2, unhide H3, unhide H4], hb1.trans (hb2.mono hb1.size)⟩
    · have H1 := hide h1
      have H2 := hide h2
      go_enter Tryz.func83, Tryz.ntmps83
      go_wp2_with fail
      refine (number_any _ _ h0).mono ?_
      rintro e w' ⟨rfl, rfl⟩
      go_wp2_with fail
      refine (name_any _ _ h0).mono ?_
      rintro e w1 ⟨rfl, hb1⟩
      go_wp2_with fail
      refine (function_any _ _ h0).mono ?_
      rintro e w2 ⟨rfl, hb2⟩
      go_wp2_with fail
      go_ret2
      exact ⟨by simp [nxS, nxB, unhide H1, unhide H2], hb1.trans (hb2.mono hb1.size)⟩
  · have H1 := hide h1
    go_enter Tryz.func83, Tryz.ntmps83
    go_wp2_with fail
    refine (number_any _ _ h0).mono ?_
    rintro e w' ⟨rfl, rfl⟩
    go_wp2_with fail
    refine (name_any _ _ h0).mono ?_
    rintro e w1 ⟨rfl, hb1⟩
    go_wp2_with fail
    refine (function_any _ _ h0).mono ?_
    rintro e w2 ⟨rfl, hb2⟩
    go_wp2_with fail
    go_ret2
    exact ⟨by simp [nxS, nxB, unhide H1], hb1.trans (hb2.mono hb1.size)⟩
end Go.Proofs.YtjobgpahajhbnaaGreatDoor
