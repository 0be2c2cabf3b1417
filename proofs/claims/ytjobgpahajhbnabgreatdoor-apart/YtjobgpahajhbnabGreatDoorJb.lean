import Derived.Test.YtjobgpahajhbnabGreatDoorTe
import Derived.Test.YtjobgpahajhbnabGreatDoorTd
import Derived.Laws.OwnMore
namespace Go.Proofs.YtjobgpahajhbnabGreatDoor
open Go.RowKit Go.Proofs Go.Maps
attribute [local go_sem ↓] Go.wp_at_zero Go.wp_at_succ
set_option maxHeartbeats 1000000 in
set_option maxRecDepth 20000 in
theorem Jp0 (S : Nat → Prop) (db : Nat) (env env' : ByteArray → Option Arr) (N N' : Nat) (s : ByteArray) (sh cs : List Int) (cost : Int) (hs : Jls db env N s env' N' sh cs cost) (w : World) (hD : DkE S db env N w) :
    Calls Tryz.prog 12 #[.pointer (some ⟨db, 0, none⟩), .string s] w fun e w' => ∃ so sn sc co cn cc, e = .returned (.tuple #[.agg #[.int .i64 0, .int .i64 0, .slice so sn sc, .slice co cn cc, .int .i64 cost], .bool true]) ∧ Nums (fun b => w.heap.size < b) w' (.slice so sn sc) sh ∧ Nums (fun b => w.heap.size < b) w' (.slice co cn cc) cs ∧ DkE S db env' N' w' ∧ KeepS S w w' := by
  obtain ⟨w0, hw0⟩ : ∃ w0, (w.alloc (.cells #[.int .i64 0, .int .i64 0, .slice none 0 0, .slice none 0 0, .int .i64 0] 34)).alloc (.cells #[.string s] 9) = w0 := ⟨_, rfl⟩; have hb0 : Below w.heap.size w w0 := by rw [← hw0]; exact ((Below.refl _ _).alloc (Nat.le_refl _) _).alloc (by simp) _
  have hs0 : w0.heap.size = w.heap.size + 1 + 1 := by rw [← hw0]; simp
  have hM := hD.more hb0; have hc0 : w0.cell? ⟨w.heap.size + 1, 0, none⟩ = some (.string s) := by rw [← hw0]; simp
  have hS : (fun b => S b ∨ (w.heap.size ≤ b ∧ b < w0.heap.size)) w.heap.size := Or.inr ⟨Nat.le_refl _, by omega⟩; have hnS : ¬ S w.heap.size := fun h => by have := (hD.lt h).2.1; omega
  have h6 : 6 ≤ w.heap.size := by have := hD.low; omega
  have HC := hide (Jpy (fun b => S b ∨ (w.heap.size ≤ b ∧ b < w0.heap.size)) env' N' w0 db (w.heap.size + 1) 1 s sh cs cost hc0 (by omega) (hs _ _ hM)); have e0 : ∀ i, w0.cell? ⟨w.heap.size, i, none⟩ = (w.alloc (.cells #[.int .i64 0, .int .i64 0, .slice none 0 0, .slice none 0 0, .int .i64 0] 34)).cell? ⟨w.heap.size, i, none⟩ := fun i => by rw [← hw0, World.cell?_alloc_past _ _ _ (by simp)]
  have e9 : ∀ i, w0.frozen? ⟨w.heap.size, i, none⟩ = false := fun i => by
    rw [← hw0, World.frozen?_of_block (a := ⟨w.heap.size, i, none⟩) (RowKit.Below.heap_alloc _ _ _ (by simp))]; exact World.frozen?_alloc_at _ _ _ _ rfl
  have HB0 := hide hb0; have HS := hide hS; have HE0 := hide e0; have HE9 := hide e9; have HLT : Hid (∀ b, S b → b < w.heap.size) := hide (fun b h => (hD.lt h).2.1); clear hs hD hb0 hM hc0 hS e0 e9; go_enter Tryz.func12, Tryz.ntmps12; go_wp2_with fail; try rw [hw0]
  clear hw0; refine (Ja HC).mono ?_; rintro e w1 ⟨rb, rc, so, sn, sc, co, cn, cc, rfl, hv⟩; have q0 := hv.q0; have q1 := hv.q1; have q2 := hv.q2; have q3 := hv.q3; have q4 := hv.q4; have h1 := hv.lo; have h2 := hv.hi; have hz1 := Bs.size hv.bs; have d : ∀ i, w1.cell? ⟨w.heap.size, i, none⟩ = (w.alloc (.cells #[.int .i64 0, .int .i64 0, .slice none 0 0, .slice none 0 0, .int .i64 0] 34)).cell? ⟨w.heap.size, i, none⟩ := fun i => (hv.bs.cell (b := w.heap.size) (o := i) (by omega) (Ja HS)).trans (Ja HE0 i)
  have d0 := (d 0).trans ((World.cell?_alloc_at _ _ _ _ rfl).trans rfl); have d1 := (d 1).trans ((World.cell?_alloc_at _ _ _ _ rfl).trans rfl); have d2 := (d 2).trans ((World.cell?_alloc_at _ _ _ _ rfl).trans rfl); have d3 := (d 3).trans ((World.cell?_alloc_at _ _ _ _ rfl).trans rfl); have d4 := (d 4).trans ((World.cell?_alloc_at _ _ _ _ rfl).trans rfl); have f : ∀ i, w1.frozen? ⟨w.heap.size, i, none⟩ = false := fun i => (hv.bs.frozen (b := w.heap.size) (o := i) (by omega) (Ja HS)).trans (Ja HE9 i)
  have g0 := f 0; have g1 := f 1; have g2 := f 2; have g3 := f 3; have g4 := f 4; have n1 : rb ≠ w.heap.size := by omega
  have n2 : w.heap.size < w1.heap.size := by omega
  have hno : ¬ (fun b => w.heap.size < b) w.heap.size := by show ¬ w.heap.size < w.heap.size; omega
  have NS := hide (hv.sh.imp (Q := fun b => w.heap.size < b) (fun b h _ => by show w.heap.size < b; have h : w0.heap.size ≤ b := h; omega)); have NC := hide (hv.cs.imp (Q := fun b => w.heap.size < b) (fun b h _ => by show w.heap.size < b; have h : w0.heap.size ≤ b := h; omega)); have HDk := hide hv.dk; have HKp : Hid (KeepS S w w1) := hide ((KeepS.of (S := S) (Ja HB0)).trans hv.bs (fun b hb h => Or.inl h)); clear d f hv HC; go_wp2_with fail; go_region; go_wp2_with fail; refine bodyPost_ret (v := .tuple #[.agg #[.int .i64 0, .int .i64 0, .slice so sn sc, .slice co cn cc, .int .i64 cost], .bool true]) (by simp [results, Tryz.results12, go_sem, d0, d1, d2, d3, d4]) rfl ⟨so, sn, sc, co, cn, cc, rfl, ?_, ?_, ?_, ?_⟩
  · exact (((((((Ja NS).set hno 0 _).set hno 1 _).set hno 2 _).set hno 3 _).set hno 4 _)).below (Below.refl _ _).drew
  · exact (((((((Ja NC).set hno 0 _).set hno 1 _).set hno 2 _).set hno 3 _).set hno 4 _)).below (Below.refl _ _).drew
  · exact (((((((Ja HDk).set (Ja HS) 0 _).set (Ja HS) 1 _).set (Ja HS) 2 _).set (Ja HS) 3 _).set (Ja HS) 4 _).below (Below.refl _ _).drew).less (fun b h => Or.inl h)
  · exact KeepS.trans (S' := fun _ => True) ((((((Ja HKp).set hnS h6 0 _).set hnS h6 1 _).set hnS h6 2 _).set hnS h6 3 _).set hnS h6 4 _) (KeepS.of (Below.refl _ _).drew) (fun _ _ _ => trivial)
set_option maxHeartbeats 1000000 in
set_option maxRecDepth 20000 in
theorem is_u (S : Nat → Prop) (db : Nat) (env env' : ByteArray → Option Arr) (N N' : Nat) (s : ByteArray) (sh cs : List Int) (cost : Int) (hs : Jls db env N s env' N' sh cs cost) (w : World) (hD : DkE S db env N w) (vo : Option Addr) (vn vc : Nat) (ko : Option Addr) (kn kc : Nat) (hsh : Nums S w (.slice vo vn vc) sh) (hcs : Nums S w (.slice ko kn kc) cs) (hl1 : sh.length ≤ 200) (hl2 : cs.length ≤ 200) :
    Calls Tryz.prog 13 #[.pointer (some ⟨db, 0, none⟩), .string s, .slice vo vn vc, .slice ko kn kc] w fun e w' => e = .returned (.bool true) ∧ DkE S db env' N' w' ∧ KeepS S w w' := by
  have HC := hide (Jp0 S db env env' N N' s sh cs cost hs w hD); have HV := hide hsh; have HK := hide hcs; obtain ⟨rfl, hvc, _⟩ := J7 hsh; obtain ⟨rfl, hkc, _⟩ := J7 hcs; clear hs hD hsh hcs; go_enter Tryz.func13, Tryz.ntmps13; go_wp2_with fail; refine (Ja HC).mono ?_; rintro e w1 ⟨so, sn, sc, co, cn, cc, rfl, n1, n2, hd1, hb1⟩; obtain ⟨rfl, hsc, _⟩ := J7 n1; obtain ⟨rfl, hcc, _⟩ := J7 n2; obtain ⟨W2, hW2⟩ : ∃ W2, w1.alloc (.cells #[.int .i64 0, .int .i64 0, .slice so sh.length sc, .slice co cs.length cc, .int .i64 cost] 34) = W2 := ⟨_, rfl⟩; have hbW : Below w1.heap.size w1 W2 := by rw [← hW2]; exact (Below.refl _ _).alloc (Nat.le_refl _) _
  have z2 : W2.cell? ⟨w1.heap.size, 2, none⟩ = some (.slice so sh.length sc) := by rw [← hW2]; exact (World.cell?_alloc_at _ _ _ _ rfl).trans rfl
  have z3 : W2.cell? ⟨w1.heap.size, 3, none⟩ = some (.slice co cs.length cc) := by rw [← hW2]; exact (World.cell?_alloc_at _ _ _ _ rfl).trans rfl
  have zs : w1.heap.size < W2.heap.size := by rw [← hW2]; simp
  have HKW : Hid (KeepS S w W2) := hide (hb1.trans (KeepS.of (S := S) hbW) (fun _ _ h => h)); have HDW := hide (hd1.below hbW); have N1 := hide (n1.below hbW); have N2 := hide (n2.below hbW); have M1 := hide ((hb1.nums (Ja HV) (fun _ h => h)).below hbW); have M2 := hide ((hb1.nums (Ja HK) (fun _ h => h)).below hbW); clear n1 n2 hb1 hbW HC HV HK hd1; go_wp2_with fail; try rw [hW2]
  clear hW2; go_loopw [11] (fun v wr => ∃ k : Nat, v = .int .i64 k ∧ k ≤ sh.length ∧ Below W2.heap.size W2 wr) (fun v _ => sh.length - (intOf v).toNat)
  case atStart => exact ⟨0, rfl, by omega, Below.refl _ _⟩
  case round =>
    obtain ⟨k, rfl, hk, hbe⟩ := hrel; by_cases hkl : k < sh.length
    · obtain ⟨_, _, hA⟩ := J7 (Ja N1); obtain ⟨_, _, hB⟩ := J7 (Ja M1); obtain ⟨b1, o1, rfl, l1, c1⟩ := hA (by omega); obtain ⟨b2, o2, rfl, l2, c2⟩ := hB (by omega); have y1 := (hbe.cell (p := ⟨b1, o1 + k, none⟩) l1).trans (c1 k hkl); have y2 := (hbe.cell (p := ⟨b2, o2 + k, none⟩) l2).trans (c2 k hkl); have y0 := (hbe.cell (p := ⟨w1.heap.size, 2, none⟩) zs).trans z2; obtain ⟨x, hx⟩ : ∃ x, sh[k] = x := ⟨_, rfl⟩; rw [hx] at y1 y2; have HBe := hide hbe; have hk0 : (0 : Int) ≤ (k : Int) := by omega
      have hk1 : (k : Int) < (sh.length : Int) := by omega
      clear hA hB c1 c2 hbe hx; go_wp2_with fail; go_region; go_wp2_with fail; go_roundw
      case rel => exact ⟨k + 1, by go_num, by omega, (Ja HBe).drew⟩
      case measure => simp [intOf]; omega
    · have hke : k = sh.length := by omega
      subst hke; have HBe := hide hbe; clear hbe; go_wp2_with fail; go_loopw [12] (fun v wx => ∃ k : Nat, v = .int .i64 k ∧ k ≤ cs.length ∧ Below W2.heap.size W2 wx) (fun v _ => cs.length - (intOf v).toNat)
      case atStart => exact ⟨0, rfl, by omega, Ja HBe⟩
      case round =>
        obtain ⟨k, rfl, hk, hbe⟩ := hrel; by_cases hkl : k < cs.length
        · obtain ⟨_, _, hA⟩ := J7 (Ja N2); obtain ⟨_, _, hB⟩ := J7 (Ja M2); obtain ⟨b1, o1, rfl, l1, c1⟩ := hA (by omega); obtain ⟨b2, o2, rfl, l2, c2⟩ := hB (by omega); have y1 := (hbe.cell (p := ⟨b1, o1 + k, none⟩) l1).trans (c1 k hkl); have y2 := (hbe.cell (p := ⟨b2, o2 + k, none⟩) l2).trans (c2 k hkl); have y0 := (hbe.cell (p := ⟨w1.heap.size, 3, none⟩) zs).trans z3; obtain ⟨x, hx⟩ : ∃ x, cs[k] = x := ⟨_, rfl⟩; rw [hx] at y1 y2; have HBe2 := hide hbe; have hk0 : (0 : Int) ≤ (k : Int) := by omega
          have hk1 : (k : Int) < (cs.length : Int) := by omega
          clear hA hB c1 c2 hbe hx; go_wp2_with fail; go_region; go_wp2_with fail; go_roundw
          case rel => exact ⟨k + 1, by go_num, by omega, (Ja HBe2).drew⟩
          case measure => simp [intOf]; omega
        · have hke : k = cs.length := by omega
          subst hke; have HBe2 := hide hbe; clear hbe; go_wp2_with fail; exact bodyPost_ret (v := .bool true) (by simp [results, Tryz.results13, go_sem]) rfl ⟨rfl, (Ja HDW).below (Ja HBe2), (Ja HKW).trans (KeepS.of (S := S) (Ja HBe2)) (fun _ _ h => h)⟩
set_option maxHeartbeats 400000 in
theorem Jnc (S : Nat → Prop) (db : Nat) (env env' : ByteArray → Option Arr) (N N' : Nat) (s : ByteArray) (cs : List Int) (cost : Int) (hs : Jls db env N s env' N' [(cs.length : Int)] cs cost) (w : World) (hD : DkE S db env N w) (ko : Option Addr) (kn kc : Nat) (hcs : Nums S w (.slice ko kn kc) cs) (hl : cs.length ≤ 200) :
    Calls Tryz.prog 19 #[.pointer (some ⟨db, 0, none⟩), .string s, .slice ko kn kc] w fun e w' => e = .returned (.bool true) ∧ DkE S db env' N' w' ∧ KeepS S w w' := by
  obtain ⟨rfl, _, _⟩ := J7 hcs; have hw0 : Below w.heap.size w (w.alloc (.cells #[.int .i64 cs.length] 3)) := (Below.refl _ _).alloc (Nat.le_refl _) _; have HC := hide (is_u _ db env env' N N' s [(cs.length : Int)] cs cost hs _ (hD.more hw0) (some ⟨w.heap.size, 0, none⟩) 1 1 ko cs.length kc (V6 rfl (Or.inr ⟨Nat.le_refl _, by simp⟩)) ((hcs.imp (fun _ h _ => Or.inl h)).below hw0) (by simp) hl); have HB0 := hide hw0; clear hs hD hw0 hcs; go_enter Tryz.func19, Tryz.ntmps19; go_wp2_with (go_at_call 13; refine (Ja HC).mono ?_; rintro e w1 ⟨rfl, hd1, hb1⟩; have HB1 := hide hb1; have HD1 := hide hd1; clear hb1 hd1); exact bodyPost_ret (v := .bool true) (by simp [results, Tryz.results19, go_sem]) rfl ⟨rfl, (Ja HD1).less (fun b h => Or.inl h), (KeepS.of (S := S) (Ja HB0)).trans (Ja HB1) (fun _ _ h => Or.inl h)⟩
end Go.Proofs.YtjobgpahajhbnabGreatDoor
namespace Go.Proofs.YtjobgpahajhbnabGreatDoor
open Go.RowKit Go.Proofs Go.Maps
attribute [local go_sem ↓] Go.wp_at_zero Go.wp_at_succ
theorem Tryz.zero148 (w : World) : (zeroValue 148).run Tryz.prog w = .ok .nilFunc w := by kernel_rfl
theorem Tryz.zero114 (w : World) : (zeroValue 114).run Tryz.prog w = .ok .nilFunc w := by kernel_rfl
theorem Tryz.nil246 (w : World) : (binOp .eql 148 .nilFunc .nilFunc).run Tryz.prog w = .ok (.bool true) w := by kernel_rfl
set_option maxHeartbeats 1000000 in
set_option maxRecDepth 20000 in
theorem Zz {t : ByteArray} {k1 k2 : Lit} {f : Nat} (h1 : 1 ≤ t.size) (hk2 : keyOf Tryz.prog 9 (.string t) = some k2) (hh : Maps.has signsD k2 = false) (hk1 : keyOf Tryz.prog 9 (.string (t.extract 1 t.size)) = some k1) (ha1 : formsTwoD.atKey k1 (.held .nilFunc) = .held .nilFunc) (ha2 : twosD.atKey k2 (.held .nilFunc) = .held (.func (.func f) #[] #[])) (w : World) :
    Calls Tryz.prog 49 #[.string t] w fun e w' => e = .returned (.func (.func f) #[] #[]) ∧ Below w.heap.size w w' := by
  have HL0 : Hid (∀ w' b, w'.ownsMap Tryz.prog 9 Jm b 9 signsD → (Instr.lookup 144 (.map (some b)) (.string t) true).run Tryz.prog w' = .ok (.tuple #[.agg #[.nilFunc, .int .i64 0], .bool false]) w') := hide (fun w' b h => Kz Tryz.underlying144 (Tryz.zero143 w') h hk2 hh (atKey_of_not_has hh _)); have HL1 : Hid (∀ w' b, w'.ownsMap Tryz.prog 9 Jm b 1 formsTwoD → (Instr.lookup 149 (.map (some b)) (.string (t.extract 1 t.size)) false).run Tryz.prog w' = .ok .nilFunc w') := hide (fun w' b h => Y0 Tryz.underlying149 (Tryz.zero148 w') h hk1 ha1); have HL2 : Hid (∀ w' b, w'.ownsMap Tryz.prog 9 Jm b 8 twosD → (Instr.lookup 151 (.map (some b)) (.string t) false).run Tryz.prog w' = .ok (.func (.func f) #[] #[]) w') := hide (fun w' b h => Y0 Tryz.underlying151 (Tryz.zero114 w') h hk2 ha2); have hnn := Tryz.nil246; clear hk1 ha1 hk2 ha2 hh; go_enter Tryz.func49, Tryz.ntmps49; go_wp2_with (go_at_call 74; refine (Zm _).mono ?_; rintro e w1 ⟨rfl, ho, hb⟩; have hl0 := Ja HL0 _ _ ho; have HB0 := hide hb; clear ho hb); have HW : Hid (Below w.heap.size w (w1.alloc (.cells #[.nilFunc, .int .i64 0] 143))) := hide ((Ja HB0).alloc (Ja HB0).size _); obtain ⟨W1, hW1⟩ : ∃ W1, w1.alloc (.cells #[.nilFunc, .int .i64 0] 143) = W1 := ⟨_, rfl⟩; rw [hW1] at HW ⊢; clear hW1 hl0 HB0; go_region_with (first | (go_at_call 77; refine (Zx _).mono ?_; rintro e w1 ⟨rfl, ho, hb⟩; have hl := Ja HL1 _ W1.heap.size (by exact ho); have hl3 := Ja HL1 (w1.alloc (.cells #[.nilFunc] 148)) W1.heap.size (World.ownsMap.alloc (by exact ho) _); have HB := hide hb; obtain ⟨hc, hf⟩ := Jq hb; have hs := hb.size; (try simp at hs); (try have hs2 : W1.heap.size < w1.heap.size := by omega); clear ho hb) | (go_at_call 77; refine (Zx _).mono ?_; rintro e w1 ⟨rfl, ho, hb⟩; have hl : (Instr.lookup 149 (.map (some (W1.heap.size + 1))) (.string (t.extract 1 t.size)) false).run Tryz.prog w1 = .ok .nilFunc w1 := (by have := Ja HL1 _ _ ho; simpa [World.drew] using this); have HB := hide hb; obtain ⟨hc, hf⟩ := Jq hb; have hs := hb.size; (try simp at hs); (try have hs2 : W1.heap.size < w1.heap.size := by omega); clear ho hb))
  all_goals
    go_wp2_with (go_at_call 78; refine (Ji5 _).mono ?_; rintro e w2 ⟨rfl, ho, hb⟩; have hl2 := Ja HL2 _ _ ho; (try simp only [World.size_alloc, World.size_setCell] at hl2); have HB2 := hide hb; clear ho hb); first
    | (have hA : Below W1.heap.size W1 (w1.alloc (.cells #[.nilFunc] 148)) := (Jk (Ja HB)).alloc (Jk (Ja HB)).size _
       exact bodyPost_ret (v := .func (.func f) #[] #[]) (by simp [results, Tryz.results49, go_sem]) rfl ⟨rfl, (Ja HW).trans ((hA.trans ((Ja HB2).mono hA.size)).mono (Ja HW).size)⟩)
    | (have hA : Below W1.heap.size W1 (w1.setCell ⟨W1.heap.size, 0, none⟩ .nilFunc) := ((((Below.refl W1.heap.size W1).alloc (Nat.le_refl _) _).drew.trans ((Ja HB).mono (by simp))).setCell (p := ⟨W1.heap.size, 0, none⟩) (Nat.le_refl _) _)
       exact bodyPost_ret (v := .func (.func f) #[] #[]) (by simp [results, Tryz.results49, go_sem]) rfl ⟨rfl, (Ja HW).trans ((hA.trans ((Ja HB2).mono hA.size)).mono (Ja HW).size)⟩)
    | trace_state
end Go.Proofs.YtjobgpahajhbnabGreatDoor
namespace Go.Proofs.YtjobgpahajhbnabGreatDoor
open Go.RowKit Go.Proofs Go.Maps
attribute [local go_sem ↓] Go.wp_at_zero Go.wp_at_succ
def Y3 (n k : Nat) : List Value := (List.range n).map fun i => .int .i64 (if i < k then (i : Int) else 0)
theorem Nu (n : Nat) : Y3 n 0 = List.replicate n (.int .i64 0) := by
  simp [Y3, List.map_const']
theorem Jbl {n k : Nat} (_h : k < n) : (Y3 n k).set k (.int .i64 (k : Int)) = Y3 n (k + 1) := by
  apply List.ext_getElem
  · simp [Y3]
  · intro i h1 h2; simp [Y3, List.getElem_set]; by_cases e : k = i
    · subst e; simp
    · rw [if_neg e]; by_cases hi : i < k
      · rw [if_pos hi, if_pos (by omega)]
      · rw [if_neg hi, if_neg (by omega)]
theorem Jbm (n : Nat) : Y3 n n = ((List.range n).map Int.ofNat).map (Value.int .i64) := by
  apply List.ext_getElem
  · simp [Y3]
  · intro i h1 h2; simp [Y3] at h1 ⊢; omega
set_option maxHeartbeats 1000000 in
theorem Gx (n : Nat) (hn : n ≤ 200) (w : World) : Calls Tryz.prog 155 #[.int .i64 n] w fun e w' => e = .returned (.slice (some ⟨w.heap.size, 0, none⟩) n n) ∧ w'.ownsRow w.heap.size 2 1 (.slice (some ⟨w.heap.size, 0, none⟩) n n) n (((List.range n).map Int.ofNat).map (Value.int .i64)) ∧ Below w.heap.size w w' := by
  obtain ⟨i0, hi, hz0, hz1, hz2⟩ := info_parts Tryz.info2; have HI := hide hi; have HZ0 := hide hz0; have HZ1 := hide hz1; have HZ2 := hide hz2; clear hi hz0 hz1 hz2; go_enter Tryz.func155, Tryz.ntmps155; go_wp2_with (at_make; refine wpList_make_full _ rfl _ _ 32 rfl w.heap.size 2 i0 (.int .i64 0) 1 Tryz.underlying32 (Ja HI) (Ja HZ0) (Ja HZ1) .i64 .i64 n n n rfl rfl rfl rfl ?c1 ?c2 (Nat.le_refl _) ?_)
  case c1 => rw [Ja HZ2]; omega
  case c2 => unfold maxLen; omega
  intro w1 hown hg; have hown : w1.ownsRow w.heap.size 2 1 (.slice (some ⟨w.heap.size, 0, none⟩) n n) n (Y3 n 0) := by
    rw [Nu]; have := toList_madeCells_one (.int .i64 0) (n * 1); rw [Nat.mul_one] at this; rw [← this]; simpa using hown
  have HO := hide hown; have HB : Hid (Below w.heap.size w w1) := hide ((Below.refl _ _).grown hg (Nat.le_refl _) (fun _ h => by cases h)); clear hown hg; go_wp2_with fail; go_loopw [9] (fun v wr => ∃ k : Nat, v = .int .i64 k ∧ k ≤ n ∧ wr.ownsRow w.heap.size 2 1 (.slice (some ⟨w.heap.size, 0, none⟩) n n) n (Y3 n k) ∧ Below w.heap.size w wr) (fun v _ => n - (intOf v).toNat)
  case atStart => exact ⟨0, rfl, by omega, Ja HO, Ja HB⟩
  case round =>
    obtain ⟨k, rfl, hk, ho, hb⟩ := hrel; by_cases hkn : k < n
    · have c0 := ho.cellAt k (by omega); have f0 := ho.frozenAt k; rw [List.getElem?_eq_getElem (by simp [Y3]; exact hkn)] at c0; obtain ⟨u, hu⟩ : ∃ u, (Y3 n k)[k]'(by simp [Y3]; exact hkn) = u := ⟨_, rfl⟩; rw [hu] at c0; have hs := (ho.stored k (.int .i64 (k : Int))).1; have HO2 := hide hs; have HB2 := hide hb; have hk0 : (0 : Int) ≤ (k : Int) := by omega
      have hk1 : (k : Int) < (n : Int) := by omega
      clear hu ho hb hs; go_wp2_with fail; go_roundw
      case rel => exact ⟨k + 1, by go_num, by omega, by rw [← Jbl hkn]; exact Ja HO2, (Ja HB2).setCell (Nat.le_refl _) _⟩
      case measure => simp [intOf]; omega
    · have hke : k = n := by omega
      subst hke; rw [Jbm] at ho; have HO2 := hide ho; have HB2 := hide hb; clear ho hb; go_wp2_with fail; exact bodyPost_ret (v := .slice (some ⟨w.heap.size, 0, none⟩) k k) (by simp [results, Tryz.results155, go_sem]) rfl ⟨rfl, Ja HO2, Ja HB2⟩
end Go.Proofs.YtjobgpahajhbnabGreatDoor
namespace Go.Proofs.YtjobgpahajhbnabGreatDoor
open Go.RowKit Go.Proofs Go.Maps
attribute [local go_sem ↓] Go.wp_at_zero Go.wp_at_succ
theorem Tryz.enters103 : Enters Tryz.prog 103 := Go.Proofs.enters_of Tryz.func103 (by decide) rfl
def Gp (a : Arr) : Arr × Int := if a.shape ≠ [] then (eArr, 5) else if a.cells.headD 0 < 0 then (eArr, 7) else if 64 < a.cells.headD 0 then (eArr, 9) else (⟨[(a.cells.headD 0).toNat], (List.range (a.cells.headD 0).toNat).map Int.ofNat⟩, 0)
theorem Yd (P : Nat → Prop) (w : World) : IsArr P w (.agg #[.slice none 0 0, .slice none 0 0]) eArr := ⟨none, 0, 0, none, 0, 0, rfl, Jo _ _, Jo _ _⟩
theorem Jg {P : Nat → Prop} {w : World} {so : Option Addr} {sn sc : Nat} {xs : List Int} (h : Nums P w (.slice so sn sc) xs) : sn = xs.length := by
  obtain ⟨ao, cap, hv, _⟩ := h; injection hv
theorem Zn {P : Nat → Prop} {w : World} {co : Option Addr} {cn cc : Nat} {a : Arr} (h : Nums P w (.slice co cn cc) a.cells) (ho : a.ok) (hs : a.shape = []) : ∃ x b off, a.cells = [x] ∧ cn = 1 ∧ co = some ⟨b, off, none⟩ ∧ P b ∧ b < w.heap.size ∧ w.cell? ⟨b, off, none⟩ = some (.int .i64 x) ∧ 1 ≤ cc := by
  have h1 := ho.size; rw [hs] at h1; simp [Jj] at h1; obtain ⟨x, hx⟩ := List.length_eq_one_iff.1 h1; rw [hx] at h; obtain ⟨ao, cap, hv, hcap, h2, _⟩ := h; obtain ⟨b, off, ha, hp, hl, hc⟩ := h2 (by simp); injection hv with e1 e2 e3; subst e1 e2 e3; exact ⟨x, b, off, hx, rfl, ha, hp, hl, by simpa using hc 0 (by simp), hcap⟩
theorem Xd (W : World) (o1 o3 o4 : Obj) (A : Array Value) (i : Nat) : ((((W.alloc o1).alloc (.cells A 57)).alloc o3).alloc o4).cell? ⟨W.heap.size + 1, i, none⟩ = A[i]? := by
  rw [World.cell?_of_block (a := ⟨W.heap.size + 1, i, none⟩) (RowKit.Below.heap_alloc _ _ _ (by simp <;> omega)), World.cell?_of_block (a := ⟨W.heap.size + 1, i, none⟩) (RowKit.Below.heap_alloc _ _ _ (by simp))]; exact World.cell?_alloc_at _ _ _ _ (by simp)
theorem Qg (W : World) (o1 o3 o4 : Obj) (A : Array Value) (i : Nat) : ((((W.alloc o1).alloc (.cells A 57)).alloc o3).alloc o4).frozen? ⟨W.heap.size + 1, i, none⟩ = false := by
  rw [World.frozen?_of_block (a := ⟨W.heap.size + 1, i, none⟩) (RowKit.Below.heap_alloc _ _ _ (by simp <;> omega)), World.frozen?_of_block (a := ⟨W.heap.size + 1, i, none⟩) (RowKit.Below.heap_alloc _ _ _ (by simp))]; exact World.frozen?_alloc_at _ _ _ _ (by simp)
set_option maxHeartbeats 1000000 in
set_option maxRecDepth 20000 in
theorem Jmf (w : World) : FnOne 103 #[] w Gp := by
  intro W P v a _ hP ha hoa; obtain ⟨so, sn, sc, co, cn, cc, rfl, ha1, ha2⟩ := ha; have hsn := Jg ha1; simp at hsn; obtain ⟨r, hr⟩ : ∃ r, Gp a = r := ⟨_, rfl⟩; simp only [hr]; have HS := hide (fun W' => Ji W' so sn sc co cn cc); by_cases hsh : a.shape = []
  · obtain ⟨x, b, off, hx, rfl, rfl, hPb, hbl, hcell, hcc⟩ := Zn ha2 hoa hsh; have h0 : sn = 0 := by rw [hsn, hsh]; rfl
    subst h0; have hbl1 : b < W.heap.size + 1 := by omega
    have hbl2 : b < W.heap.size + 1 + 1 := by omega
    have hbl3 : b < W.heap.size + 1 + 1 + 1 := by omega
    by_cases hneg : x < 0
    · have hr' : r = (eArr, 7) := by rw [← hr]; unfold Gp; rw [if_neg (by simp [hsh]), hx]; simp [hneg]
      subst hr'; clear hr ha1 ha2 hP hoa hx hsn hsh; go_enter Tryz.func103, Tryz.ntmps103; go_wp2_with (go_at_call 143; refine (Ja HS _).mono ?_; rintro e w' ⟨rfl, rfl⟩); refine bodyPost_ret (v := .tuple #[.agg #[.slice none 0 0, .slice none 0 0], .int .i64 7]) (by simp [results, Tryz.results103, go_sem]) rfl ⟨_, _, _, _, _, _, rfl, Yd _ _, ?_⟩; first
      | exact (((((Below.refl W.heap.size W).alloc (Nat.le_refl _) _).alloc (by simp) _).alloc (by simp; omega) _).alloc (by simp; omega) _)
      | (trace_state; fail)
    · by_cases hbig : 64 < x
      · have hr' : r = (eArr, 9) := by rw [← hr]; unfold Gp; rw [if_neg (by simp [hsh]), hx]; simp [hneg, hbig]
        subst hr'; clear hr ha1 ha2 hP hoa hx hsn hsh; go_enter Tryz.func103, Tryz.ntmps103; go_wp2_with (go_at_call 143; refine (Ja HS _).mono ?_; rintro e w' ⟨rfl, rfl⟩); refine bodyPost_ret (v := .tuple #[.agg #[.slice none 0 0, .slice none 0 0], .int .i64 9]) (by simp [results, Tryz.results103, go_sem]) rfl ⟨_, _, _, _, _, _, rfl, Yd _ _, ?_⟩; exact (((((Below.refl W.heap.size W).alloc (Nat.le_refl _) _).alloc (by simp) _).alloc (by simp; omega) _).alloc (by simp; omega) _)
      · obtain ⟨n, rfl⟩ : ∃ n : Nat, x = n := ⟨x.toNat, by omega⟩; have hn : n ≤ 200 := by omega
        have hr' : r = (⟨[n], (List.range n).map Int.ofNat⟩, 0) := by rw [← hr]; unfold Gp; rw [if_neg (by simp [hsh]), hx]; simp [hneg, hbig]
        subst hr'; have HPl := hide (fun W' => Gx n hn W'); have HR := hide (fun W' v' (hb : W.heap.size + 2 ≤ W'.heap.size) (h : Nums (fun b => P b ∧ b ≠ W.heap.size + 1) W' v' ((List.range n).map Int.ofNat)) => Zo (fun b => P b ∧ b ≠ W.heap.size + 1) W' (fun b h' => ⟨hP b (by omega), by omega⟩) v' _ h); have HP := hide hP; clear hr ha1 ha2 hP hoa hx hsn hsh; go_enter Tryz.func103, Tryz.ntmps103; go_wp2_with (go_at_call 143; refine (Ja HS _).mono ?_; rintro e w' ⟨rfl, rfl⟩); go_at_call 155
        refine (Ja HPl _).mono ?_; rintro e w1 ⟨rfl, ho1, hb1⟩; obtain ⟨hc1, hf1⟩ := Jq hb1; simp only [World.size_alloc] at ho1 hb1 hc1 hf1 ⊢; have hs1 := hb1.size; simp at hs1; have hN := Jt (P := fun b => P b ∧ b ≠ W.heap.size + 1) ho1 (fun b h => ⟨Ja HP b (by (try simp at h); omega), by (try simp at h); omega⟩); have HN := hide hN; have HB1 := hide hb1; have d0 : w1.cell? ⟨W.heap.size + 1, 0, none⟩ = some (.slice none 0 0) := (hc1 (W.heap.size + 1) 0 (by omega)).trans ((Xd W _ _ _ _ 0).trans rfl); have d1 : w1.cell? ⟨W.heap.size + 1, 1, none⟩ = some (.slice none 0 0) := (hc1 (W.heap.size + 1) 1 (by omega)).trans ((Xd W _ _ _ _ 1).trans rfl); have HBW : Hid (Below W.heap.size W w1) := hide ((((((Below.refl W.heap.size W).alloc (Nat.le_refl _) _).alloc (by simp) _).alloc (by simp; omega) _).alloc (by simp; omega) _).trans ((Ja HB1).mono (by omega))); clear ho1 hb1 hN; go_wp2_with fail; refine (Ja HR _ _ (by omega) (Ja HN)).mono ?_; rintro e w2 ⟨s1, s2, s3, c1, c2, c3, rfl, hA2, hb2⟩; have HA2 := hide hA2; have hs2 := hb2.size; have e0 := (hb2.cell (p := ⟨W.heap.size + 1, 0, none⟩) (by show W.heap.size + 1 < w1.heap.size; omega)).trans d0; have e1 := (hb2.cell (p := ⟨W.heap.size + 1, 1, none⟩) (by show W.heap.size + 1 < w1.heap.size; omega)).trans d1; have g0 := (hb2.frozen (p := ⟨W.heap.size + 1, 0, none⟩) (by show W.heap.size + 1 < w1.heap.size; omega)).trans ((hf1 (W.heap.size + 1) 0 (by omega)).trans (Qg W _ _ _ _ 0)); have g1 := (hb2.frozen (p := ⟨W.heap.size + 1, 1, none⟩) (by show W.heap.size + 1 < w1.heap.size; omega)).trans ((hf1 (W.heap.size + 1) 1 (by omega)).trans (Qg W _ _ _ _ 1)); have HB2 : Hid (Below W.heap.size W w2) := hide ((Ja HBW).trans (hb2.mono (Ja HBW).size)); have hw2 : W.heap.size + 1 < w2.heap.size := by omega
        have hL : ((List.range n).map Int.ofNat).length = n := by simp
        rw [hL] at HA2; clear hA2 hb2 d0 d1 hc1 hf1 HN HB1 HBW HR HPl HS; go_wp2_with fail; refine bodyPost_ret (v := .tuple #[.agg #[.slice s1 s2 s3, .slice c1 c2 c3], .int .i64 0]) (by simp [results, Tryz.results103, go_sem, e0, e1]) rfl ⟨_, _, _, _, _, _, rfl, ?_, ?_⟩
        · exact (((Ja HA2).set (fun h => h.2 rfl) 0 _).set (fun h => h.2 rfl) 1 _).imp (fun b h _ => h.1)
        · exact ((Ja HB2).setCell (p := ⟨W.heap.size + 1, 0, none⟩) (Nat.le_succ _) _).setCell (p := ⟨W.heap.size + 1, 1, none⟩) (Nat.le_succ _) _
  · have hr' : r = (eArr, 5) := by rw [← hr]; unfold Gp; rw [if_pos hsh]
    subst hr'; have h0 : ((sn : Int) == 0) = false := by
      rw [hsn]; simp [hsh]
    clear hr ha1 ha2 hP hoa hsn hsh; go_enter Tryz.func103, Tryz.ntmps103; go_wp2_with (go_at_call 143; refine (Ja HS _).mono ?_; rintro e w' ⟨rfl, rfl⟩); refine bodyPost_ret (v := .tuple #[.agg #[.slice none 0 0, .slice none 0 0], .int .i64 5]) (by simp [results, Tryz.results103, go_sem]) rfl ⟨_, _, _, _, _, _, rfl, Yd _ _, ?_⟩; exact (((((Below.refl W.heap.size W).alloc (Nat.le_refl _) _).alloc (by simp) _).alloc (by simp; omega) _).alloc (by simp; omega) _)
theorem Jc8 : OneC ⟨#[105, 111, 116, 97]⟩ Gp := ⟨fun w => (Y9 (t := ⟨#[105, 111, 116, 97]⟩) (k1 := .string [111, 116, 97]) (k2 := .string [105, 111, 116, 97]) (f := 103) (by decide) (by kernel_rfl) (by kernel_rfl) (by kernel_rfl) (by kernel_rfl) w).mono (by rintro e w' ⟨rfl, hb⟩; exact ⟨103, #[], rfl, Tryz.enters103, hb, Jmf w'⟩), fun a ha => by
  unfold Gp; split
  · exact ⟨by simp [eArr], fun h => absurd h (by decide)⟩
  · split
    · exact ⟨by simp [eArr], fun h => absurd h (by decide)⟩
    · split
      · exact ⟨by simp [eArr], fun h => absurd h (by decide)⟩
      · rename_i h1 h2 h3
        have hn : (a.cells.headD 0).toNat ≤ 64 := by omega
        obtain ⟨m, hm⟩ : ∃ m, (a.cells.headD 0).toNat = m := ⟨_, rfl⟩; rw [hm] at hn ⊢; exact ⟨by simp; omega, fun _ => ⟨by simp, by simp; omega, by simp [Jj], by simp; omega, fun c hc => by simp at hc; obtain ⟨i, hi, rfl⟩ := hc; unfold Jf; omega⟩⟩⟩
end Go.Proofs.YtjobgpahajhbnabGreatDoor
namespace Go.Proofs.YtjobgpahajhbnabGreatDoor
open Go.RowKit Go.Proofs Go.Maps
attribute [local go_sem ↓] Go.wp_at_zero Go.wp_at_succ
set_option maxHeartbeats 1000000 in
theorem Jhy (P : Nat → Prop) (w : World) (co : Option Addr) (cn cc : Nat) (xs : List Int) (h : Nums P w (.slice co cn cc) xs) (hl : xs.length ≤ 200) (x : Int) :
    Calls Tryz.prog 205 #[.slice co cn cc, .int .i64 x] w fun e w' => ∃ r : Int, e = .returned (.int .i64 r) ∧ (0 ≤ r ↔ x ∈ xs) ∧ w' = w := by
  have hcn := Jg h; have HX : Hid (0 < cn → ∃ b off, co = some ⟨b, off, none⟩ ∧ b < w.heap.size ∧ ∀ i, (hi : i < xs.length) → w.cell? ⟨b, off + i, none⟩ = some (.int .i64 xs[i])) := by
    intro h0; obtain ⟨ao, cap, hv, _, h1, _⟩ := h; injection hv with e1 e2 e3; obtain ⟨b, off, ha, _, hlt, hc⟩ := h1 (by omega); exact ⟨b, off, e1.trans ha, hlt, hc⟩
  have HN := hide hcn; have hcl : cn ≤ 200 := by omega
  clear h hcn hl; go_enter Tryz.func205, Tryz.ntmps205; go_wp2_with fail; go_loop [8] (fun v => ∃ k : Nat, v = .int .i64 k ∧ k ≤ cn ∧ ∀ i, (hi : i < xs.length) → i < k → xs[i] ≠ x) (fun v => cn - (intOf v).toNat)
  case atStart => exact ⟨0, rfl, by omega, fun i _ h => absurd h (by omega)⟩
  case round =>
    obtain ⟨k, rfl, hk, hall⟩ := hrel; by_cases hkn : k < cn
    · obtain ⟨b, off, rfl, hlt, hc⟩ := Ja HX (by omega); have hkx : k < xs.length := by rw [← Ja HN]; exact hkn
      have c0 := hc k hkx; obtain ⟨y, hy⟩ : ∃ y, xs[k] = y := ⟨_, rfl⟩; rw [hy] at c0; have HY := hide hy; have HA := hide hall; have hk1 : (k : Int) < (cn : Int) := by omega
      have hk0 : (0 : Int) ≤ (k : Int) := by omega
      clear hc hy hall; by_cases hxy : x = y
      · have hxy' : (x == y) = true := by simpa using hxy
        go_wp2_with fail; exact bodyPost_ret (v := .int .i64 k) (by simp [results, Tryz.results205, go_sem]) rfl ⟨k, rfl, ⟨fun _ => by have hm := List.getElem_mem hkx; rw [Ja HY] at hm; first | exact hm | (rw [hxy]; exact hm), fun _ => by omega⟩, rfl⟩
      · have hxy' : (x == y) = false := by simpa using hxy
        go_wp2_with fail; exact ⟨⟨k + 1, by simp, by omega, fun i hi hik => by
          by_cases e : i = k
          · subst e; rw [Ja HY]; exact fun h => hxy h.symm
          · exact Ja HA i hi (by omega)⟩, by simp [intOf]; omega⟩
    · have HA := hide hall; have hke : k = cn := by omega
      clear hall; go_wp2_with fail; refine bodyPost_ret (v := .int .i64 (-1)) (by simp [results, Tryz.results205, go_sem]) rfl ⟨-1, rfl, ⟨fun h => absurd h (by decide), fun h => ?_⟩, rfl⟩; obtain ⟨i, hi, e⟩ := List.getElem_of_mem h; exact absurd e (Ja HA i hi (by rw [hke, Ja HN]; exact hi))
set_option maxHeartbeats 400000 in
theorem Jas (P : Nat → Prop) (w : World) (co : Option Addr) (cn cc : Nat) (xs : List Int) (h : Nums P w (.slice co cn cc) xs) (hl : xs.length ≤ 200) (x : Int) :
    Calls Tryz.prog 183 #[.slice co cn cc, .int .i64 x] w fun e w' => e = .returned (.bool (decide (x ∈ xs))) ∧ w' = w := by
  have HI := hide (Jhy P w co cn cc xs h hl x); clear h hl; go_enter Tryz.func183, Tryz.ntmps183; go_wp2_with (go_at_call 205; refine (Ja HI).mono ?_; rintro e w' ⟨r, rfl, hr, rfl⟩; have HR := hide hr; clear hr); refine bodyPost_ret (v := .bool (decide (x ∈ xs))) ?_ rfl ⟨rfl, rfl⟩; have e : decide (0 ≤ r) = decide (x ∈ xs) := by rw [decide_eq_decide]; exact Ja HR
  simp [results, Tryz.results183, go_sem, ← e]
structure CellB (g pb : Nat) (W0 : World) (Dm : Int → Prop) (h : Int → Int) : Prop where
  enters : Enters Tryz.prog g
  call : ∀ (x : Int) (w : World), Below W0.heap.size W0 w → Dm x → Calls Tryz.prog g #[.int .i64 x, .pointer (some ⟨pb, 0, none⟩)] w fun e w' => e = .returned (.int .i64 (h x)) ∧ w' = w
set_option maxHeartbeats 1000000 in
set_option maxRecDepth 20000 in
theorem Jde (h : Int → Int) (g pb : Nat) (P : Nat → Prop) (w : World) (Dm : Int → Prop) (hg : CellB g pb w Dm h) (hP : ∀ b, w.heap.size ≤ b → P b) (so : Option Addr) (sn sc : Nat) (co : Option Addr) (cn cc : Nat) (a : Arr) (ha : IsArr P w (.agg #[.slice so sn sc, .slice co cn cc]) a) (hoa : a.ok) (hDm : ∀ c ∈ a.cells, Dm c) :
    Calls Tryz.prog 150 #[.agg #[.slice so sn sc, .slice co cn cc], .func (.func g) #[] #[.pointer (some ⟨pb, 0, none⟩)]] w fun e w' => ∃ c1 c2 c3, e = .returned (.agg #[.slice so sn sc, .slice c1 c2 c3]) ∧ IsArr P w' (.agg #[.slice so sn sc, .slice c1 c2 c3]) ⟨a.shape, a.cells.map h⟩ ∧ Below w.heap.size w w' := by
  obtain ⟨i0, hi, hz0, hz1, hz2⟩ := info_parts Tryz.info2; have HI := hide hi; have HZ0 := hide hz0; have HZ1 := hide hz1; have HZ2 := hide hz2; have hen2 : ∀ args w, (callFunc g args).run Tryz.prog w = .ok (.enter g args) w := hg.enters; have HP : Hid (∀ b, w.heap.size ≤ b → P b) := hP; have HA := hide ha; have HG := hide hg; have hcl := (Jc ha).1; have hN : cn ≤ 200 := by rw [hcl]; exact hoa.few
  have HX : Hid (0 < cn → ∃ b off, co = some ⟨b, off, none⟩ ∧ b < w.heap.size ∧ ∀ i, (hi : i < a.cells.length) → w.cell? ⟨b, off + i, none⟩ = some (.int .i64 a.cells[i])) := by
    intro h0; obtain ⟨so', sn', sc', co', cn', cc', hv, _, ⟨ao, cap, h2, _, hc, _⟩⟩ := ha; injection hv with hv; simp at hv; obtain ⟨_, rfl, rfl, rfl⟩ := hv; obtain ⟨b, off, e, _, hlt, hcell⟩ := hc (by omega); injection h2 with h2; exact ⟨b, off, h2.trans e, hlt, hcell⟩
  have HXF := hide hDm; obtain ⟨xs, hxs⟩ : ∃ xs, a.cells = xs := ⟨_, rfl⟩; rw [hxs] at hcl; simp only [hxs] at HX HXF ⊢; have HCL := hide hcl; clear hi hz0 hz1 hz2 hP ha hoa hcl hg hDm; go_enter Tryz.func150, Tryz.ntmps150; go_wp2_with fail; have hbW : Below w.heap.size w ((w.alloc (.cells #[.slice so sn sc, .slice co cn cc] 57)).alloc (.cells #[.slice none 0 0, .slice none 0 0] 57)) := ((Below.refl _ _).alloc (Nat.le_refl _) _).alloc (by simp) _; have z0 : ((w.alloc (.cells #[.slice so sn sc, .slice co cn cc] 57)).alloc (.cells #[.slice none 0 0, .slice none 0 0] 57)).cell? ⟨w.heap.size, 0, none⟩ = some (.slice so sn sc) := by simp
  have r0 : ((w.alloc (.cells #[.slice so sn sc, .slice co cn cc] 57)).alloc (.cells #[.slice none 0 0, .slice none 0 0] 57)).cell? ⟨w.heap.size + 1, 0, none⟩ = some (.slice none 0 0) := (World.cell?_alloc_at _ _ _ _ (by simp)).trans rfl; have r1 : ((w.alloc (.cells #[.slice so sn sc, .slice co cn cc] 57)).alloc (.cells #[.slice none 0 0, .slice none 0 0] 57)).cell? ⟨w.heap.size + 1, 1, none⟩ = some (.slice none 0 0) := (World.cell?_alloc_at _ _ _ _ (by simp)).trans rfl; have q0 : ((w.alloc (.cells #[.slice so sn sc, .slice co cn cc] 57)).alloc (.cells #[.slice none 0 0, .slice none 0 0] 57)).frozen? ⟨w.heap.size + 1, 0, none⟩ = false := World.frozen?_alloc_at _ _ _ _ (by simp); have q1 : ((w.alloc (.cells #[.slice so sn sc, .slice co cn cc] 57)).alloc (.cells #[.slice none 0 0, .slice none 0 0] 57)).frozen? ⟨w.heap.size + 1, 1, none⟩ = false := World.frozen?_alloc_at _ _ _ _ (by simp); have hlt : w.heap.size + 1 < ((w.alloc (.cells #[.slice so sn sc, .slice co cn cc] 57)).alloc (.cells #[.slice none 0 0, .slice none 0 0] 57)).heap.size := by simp
  obtain ⟨wS, hwS⟩ : ∃ wS, (w.alloc (.cells #[.slice so sn sc, .slice co cn cc] 57)).alloc (.cells #[.slice none 0 0, .slice none 0 0] 57) = wS := ⟨_, rfl⟩; rw [hwS] at hbW z0 r0 r1 q0 q1 hlt ⊢; have HBS := hide hbW; clear hwS hbW; go_loopw [5, 11] (fun v5 v11 wr => ∃ (k : Nat) (L : List Int), v11 = .int .i64 k ∧ k ≤ cn ∧ (xs.take k).map h = L ∧ wr.ownsRow wS.heap.size 2 1 v5 k (L.map (Value.int .i64)) ∧ Below wS.heap.size wS wr) (fun _ v11 _ => cn - (intOf v11).toNat)
  case atStart => exact ⟨0, [], rfl, Nat.zero_le _, rfl, World.ownsRow_nil _ _ _ _, Below.refl _ _⟩
  case round =>
    obtain ⟨k, L, rfl, hk, hL, hown, hbel⟩ := hrel; have HL := hide hL; clear hL; have z0' := (hbel.cell (p := ⟨w.heap.size, 0, none⟩) (show w.heap.size < wS.heap.size by omega)).trans z0; have r0' := (hbel.cell (p := ⟨w.heap.size + 1, 0, none⟩) hlt).trans r0; have r1' := (hbel.cell (p := ⟨w.heap.size + 1, 1, none⟩) hlt).trans r1; have q0' := (hbel.frozen (p := ⟨w.heap.size + 1, 0, none⟩) hlt).trans q0; have q1' := (hbel.frozen (p := ⟨w.heap.size + 1, 1, none⟩) hlt).trans q1; have HOw := hide hown; have HBe := hide hbel; by_cases hkn : k < cn
    · obtain ⟨xb, xf, rfl, hxb, hxc⟩ := Ja HX (by omega); have hkx : k < xs.length := by rw [← Ja HCL]; exact hkn
      have cx := (hbel.cell (p := ⟨xb, xf + k, none⟩) (Nat.lt_of_lt_of_le hxb (Ja HBS).size)).trans (((Ja HBS).cell (p := ⟨xb, xf + k, none⟩) hxb).trans (hxc k hkx)); have HTk : Hid ((xs.take (k + 1)).map h = (xs.take k).map h ++ [h xs[k]]) := hide (by rw [List.take_succ_eq_append_getElem hkx, List.map_append]; rfl); have hfx := Ja HXF _ (List.getElem_mem hkx); obtain ⟨x, hx⟩ : ∃ x, xs[k] = x := ⟨_, rfl⟩; rw [hx] at cx hfx HTk; have HRule := hide (fun w' hb' => (Ja HG).call x w' hb' hfx); have HBw : Hid (Below w.heap.size w wr) := hide ((Ja HBS).trans ((Ja HBe).mono (Ja HBS).size)); obtain ⟨u, hu⟩ : ∃ u, h x = u := ⟨_, rfl⟩; rw [hu] at HTk; simp only [hu] at HRule; have hk1 : (k : Int) < (cn : Int) := by omega
      clear hown hbel hxc hx hu hfx hxb; go_wp2_with (first | (go_at_fn g; refine (Ja HRule _ (Ja HBw)).mono ?_; rintro e wr ⟨rfl, rfl⟩) | (at_builtin; refine wpList_append_own _ rfl _ _ 32 rfl wS.heap.size 2 i0 (.int .i64 0) 1 8 Tryz.underlying32 (Ja HI) (Ja HZ0) (Ja HZ1) (Ja HZ2) rfl (by decide) _ _ _ rfl ((Ja HOw).alloc _) ⟨wr.heap.size, 0, none⟩ 1 1 [.int .i64 u] rfl rfl ?c1 ?c2 ?c3 ?c4 ?c5 ?_))
      case c1 => intro j v hj; match j, hj with | 0, hj => simp at hj; subst hj; exact (World.cell?_alloc_at _ _ _ _ rfl).trans rfl
      case c2 => intro v hv; simp at hv; subst hv; rfl
      case c3 => unfold maxLen; omega
      case c4 => omega
      case c5 => have := (Ja HBe).size; simp; omega
      · intro v' w4 hown4 hgrow4 _; have HB4 : Hid (Below wS.heap.size wS w4) := hide (((Ja HBe).alloc (Ja HBe).size _).grown hgrow4 (by have := (Ja HBe).size; simp; omega) (fun q hq => ((Ja HOw).lt q hq).1)); have HO4 := hide hown4; clear hown4 hgrow4; go_wp2_with fail; go_roundw
        case rel => exact ⟨k + 1, L ++ [u], by go_num, by omega, by rw [Ja HTk, Ja HL], by rw [List.map_append]; exact Ja HO4, Ja HB4⟩
        case measure => simp [intOf]; omega
    · have hkN : k = cn := by omega
      subst hkN; obtain ⟨vo, vc, hv8, hvle, hcells⟩ := Yb (Ja HOw); subst hv8; have hT : xs.take k = xs := List.take_of_length_le (by rw [← Ja HCL]; exact Nat.le_refl _); have hLL := Ja HL; rw [hT] at hLL; subst hLL; have hbF := (Ja HBS).trans ((Ja HBe).mono (Ja HBS).size); have HBF := hide hbF; have HN := hide (Jt (P := fun b => P b ∧ b ≠ w.heap.size + 1) (Ja HOw) (fun b hb => ⟨Ja HP b (by omega), by omega⟩)); clear hown hbel hcells hT hbF; go_wp2_with fail; refine bodyPost_ret (v := .agg #[.slice so sn sc, .slice vo k vc]) (by simp [results, Tryz.results150, go_sem, r0', r1']) rfl ⟨vo, k, vc, rfl, Vt (Ja HA) (Ja HBF) (Ja HN), ?_⟩; exact ((Ja HBF).setCell (p := ⟨w.heap.size + 1, 0, none⟩) (Nat.le_succ _) _).setCell (p := ⟨w.heap.size + 1, 1, none⟩) (Nat.le_succ _) _
end Go.Proofs.YtjobgpahajhbnabGreatDoor
