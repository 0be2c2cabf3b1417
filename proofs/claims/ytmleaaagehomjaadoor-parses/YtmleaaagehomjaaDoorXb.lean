import Derived.Test.YtmleaaagehomjaaDoorXa
namespace Go.Proofs.YtmleaaagehomjaaDoor
open Go.RowKit

/-- the steps of a script, as far as Parses looks at them -/
structure OpsIn (W : World) (b off n : Nat) (K : Nat → Int) (S : Nat → ByteArray) : Prop where
  lt : b < W.heap.size
  kind : ∀ i, i < n → W.cell? ⟨b, off + i * 4, none⟩ = some (.int .i64 (K i))
  txt : ∀ i, i < n → W.cell? ⟨b, off + i * 4 + 2, none⟩ = some (.string (S i))
  few : ∀ i, i < n → (S i).size ≤ 9223372036854775807
theorem size12 : (ByteArray.mk #[120, 32, 97, 116, 32, 117, 112, 32, 120, 32, 105, 115]).size ≤ 9223372036854775807 := by decide

set_option maxHeartbeats 1000000 in
theorem p3_any (W : World) (b off n cap : Nat) (K : Nat → Int) (S : Nat → ByteArray) (hn : n ≤ 9223372036854775807) (hv : Evs W) (h : OpsIn W b off n K S) :
    Calls Tryd.prog 3 #[.slice (some ⟨b, off, none⟩) n cap] W fun e w' => e = .returned (.bool true) ∧ Below W.heap.size W w' := by
  have HV := hide hv
  have H := hide h
  clear hv h
  go_enter Tryd.func3, Tryd.ntmps3
  go_wp2_with fail
  refine (p4_any _ _ (unhide HV) size12).mono ?_
  rintro e w1 ⟨rfl, hb1⟩
  have HB1 := hide hb1
  clear hb1
  go_wp2_with fail
  go_loopw [3, 4] (fun vo vi wr => ∃ k : Nat, k ≤ n ∧ vi = .int .i64 k ∧ vo = .bool true ∧ Below W.heap.size W wr) (fun _ vi _ => n - (intOf vi).toNat)
  case atStart => exact ⟨0, Nat.zero_le _, rfl, rfl, unhide HB1⟩
  case round =>
    obtain ⟨k, hk, rfl, rfl, hbr⟩ := hrel
    have HBr := hide hbr
    clear hbr
    by_cases hlt : k < n
    · have c0 := ((unhide HBr).cell (p := ⟨b, off + k * 4, none⟩) (unhide H).lt).trans ((unhide H).kind k hlt)
      have c2 := ((unhide HBr).cell (p := ⟨b, off + k * 4 + 2, none⟩) (unhide H).lt).trans ((unhide H).txt k hlt)
      obtain ⟨x, hx⟩ : ∃ x, K k = x := ⟨_, rfl⟩
      obtain ⟨t, ht⟩ : ∃ t, S k = t := ⟨_, rfl⟩
      have hsz := (unhide H).few k hlt
      rw [hx] at c0
      rw [ht] at c2 hsz
      clear hx ht
      cases h1 : (x == 1)
      · go_wp2_with fail
        go_roundw
        case rel => exact ⟨k + 1, by omega, by go_num, rfl, unhide HBr⟩
        case measure => simp [intOf]; omega
      · have HVr := hide ((unhide HV).below (unhide HBr) (unhide HV).1)
        have HZ := hide hsz
        clear hsz
        go_wp2_with fail
        refine (p4_any _ _ (unhide HVr) (unhide HZ)).mono ?_
        rintro e w2 ⟨rfl, hb2⟩
        have HB2 := hide hb2
        clear hb2
        go_wp2_with fail
        go_roundw
        case rel => exact ⟨k + 1, by omega, by go_num, rfl, below2 (unhide HBr) (unhide HB2)⟩
        case measure => simp [intOf]; omega
    · go_wp2_with fail
      go_ret
      exact ⟨rfl, unhide HBr⟩
set_option maxHeartbeats 1000000 in
theorem p3_none (W : World) (ao : Option Addr) (cap : Nat) (hv : Evs W) :
    Calls Tryd.prog 3 #[.slice ao 0 cap] W fun e w' => e = .returned (.bool true) ∧ Below W.heap.size W w' := by
  have HV := hide hv
  clear hv
  go_enter Tryd.func3, Tryd.ntmps3
  go_wp2_with fail
  refine (p4_any _ _ (unhide HV) size12).mono ?_
  rintro e w1 ⟨rfl, hb1⟩
  have HB1 := hide hb1
  clear hb1
  go_wp2_with fail
  refine wp_loop_rounds 1 ?_
  rw [rounds_succ]
  go_wp2_with fail
  go_ret
  exact ⟨rfl, unhide HB1⟩
end Go.Proofs.YtmleaaagehomjaaDoor
