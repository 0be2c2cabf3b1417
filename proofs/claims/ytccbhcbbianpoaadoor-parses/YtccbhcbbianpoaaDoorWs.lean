import Derived.Test.YtccbhcbbianpoaaDoorWr
import Derived.Deep.RegionWith
namespace Go.Proofs.YtccbhcbbianpoaaDoor
open Go.RowKit

theorem Rd.drew {W0 : World} {tk : Value} {j o : Nat} {w : World} (h : Rd W0 tk j o w) : Rd W0 tk j o w.drew :=
  ⟨h.below.drew, h.tok, h.nxt, h.opn, h.fr1, h.fr2⟩

set_option maxHeartbeats 1000000 in
theorem la_no (W0 : World) (ao : Option Addr) (tb cap : Nat) (T : List (Int × Int)) (hT : TokIn W0 ao tb T) (hWf : Wf T) (w : World) (hw : Rd W0 (.slice ao T.length cap) 0 0 w) (h2 : 1 < T.length) (q0 : Int) (hao : ao = some ⟨tb, 0, none⟩) (k0 : w.cell? ⟨tb, 0, none⟩ = some (.int .i64 q0)) (e0 : (q0 == 1) = false) (htb : topB T 0 = false) (kk : Nat) (hkk : (sc T 0 0 0).1 = kk) :
    Calls Tryd.prog 13 #[.pointer (some ⟨W0.heap.size, 0, none⟩)] w fun e w' => ∃ p, e = .returned (.bool false) ∧ Rd W0 (.slice ao T.length cap) kk p w' := by
  have HW := hide hw
  have c0 := hw.tok
  have c1 := hw.nxt
  have f1 := hw.fr1
  have hfew := hT.few
  have HT := hide hT
  have HF := hide hWf
  subst hao
  have HTB := hide htb
  have HK := hide hkk
  clear hw hT hWf htb hkk
  go_enter Tryd.func13, Tryd.ntmps13
  go_wp2_with fail
  refine wp_region_any (by kernel_rfl) ?_
  change wpAny _ _ _ _ _ _ _ (World.drew _)
  refine wpAny_take (i := 0) (v := .pointer (some ⟨W0.heap.size, 0, none⟩)) rfl (by kernel_rfl) (by kernel_rfl) (by kernel_rfl) (fun _ _ _ h => h) (Or.inl ⟨by rfl, fun w => by go_simp⟩) ?_
  refine wpAny_ready (rs := [1]) (by kernel_rfl) (by simp) ?_
  refine AllReady.cons rfl (fun K hK => ?_) AllReady.nil
  go_simp
  go_wp2_with fail
  refine (expr_top W0 _ tb cap T (unhide HT) (unhide HF) 0 _ (by omega) (by exact (unhide HW).drew)).mono ?_
  rintro e w1 ⟨p, rfl, hw1⟩
  rw [unhide HTB]
  rw [unhide HK] at hw1
  have HW1 := hide hw1
  clear hw1 c0 c1 f1
  go_wp2_with fail
  refine wpAny_take (i := 2) (v := .bool false) rfl (by kernel_rfl) (by kernel_rfl) (by kernel_rfl) (fun _ _ _ h => h) (Or.inl ⟨by rfl, fun w => by go_simp⟩) ?_
  go_simp
  refine wpAny_take (i := 3) (v := undef) rfl (by kernel_rfl) (by kernel_rfl) (by kernel_rfl) (fun _ _ _ h => h) (Or.inr ⟨by rfl, rfl⟩) ?_
  go_simp
  refine wpAny_take (i := 4) (v := undef) rfl (by kernel_rfl) (by kernel_rfl) (by kernel_rfl) (fun _ _ _ h => h) (Or.inr ⟨by rfl, rfl⟩) ?_
  go_simp
  refine wpAny_take (i := 5) (v := undef) rfl (by kernel_rfl) (by kernel_rfl) (by kernel_rfl) (fun _ _ _ h => h) (Or.inr ⟨by rfl, rfl⟩) ?_
  go_simp
  refine wpAny_take (i := 6) (v := undef) rfl (by kernel_rfl) (by kernel_rfl) (by kernel_rfl) (fun _ _ _ h => h) (Or.inr ⟨by rfl, rfl⟩) ?_
  go_simp
  refine wpAny_take (i := 7) (v := undef) rfl (by kernel_rfl) (by kernel_rfl) (by kernel_rfl) (fun _ _ _ h => h) (Or.inr ⟨by rfl, rfl⟩) ?_
  go_simp
  refine wpAny_take (i := 8) (v := undef) rfl (by kernel_rfl) (by kernel_rfl) (by kernel_rfl) (fun _ _ _ h => h) (Or.inr ⟨by rfl, rfl⟩) ?_
  go_simp
  refine wpAny_take (i := 9) (v := undef) rfl (by kernel_rfl) (by kernel_rfl) (by kernel_rfl) (fun _ _ _ h => h) (Or.inr ⟨by rfl, rfl⟩) ?_
  go_simp
  refine wpAny_take (i := 10) (v := undef) rfl (by kernel_rfl) (by kernel_rfl) (by kernel_rfl) (fun _ _ _ h => h) (Or.inr ⟨by rfl, rfl⟩) ?_
  go_simp
  refine wpAny_take (i := 11) (v := undef) rfl (by kernel_rfl) (by kernel_rfl) (by kernel_rfl) (fun _ _ _ h => h) (Or.inr ⟨by rfl, rfl⟩) ?_
  go_simp
  refine wpAny_take (i := 12) (v := undef) rfl (by kernel_rfl) (by kernel_rfl) (by kernel_rfl) (fun _ _ _ h => h) (Or.inr ⟨by rfl, rfl⟩) ?_
  go_simp
  refine wpAny_take (i := 13) (v := .bool false) rfl (by kernel_rfl) (by kernel_rfl) (by kernel_rfl) (fun _ _ _ h => h) (Or.inl ⟨by rfl, fun w => by go_simp⟩) ?_
  go_simp
  refine wpAny_take (i := 14) (v := .bool false) rfl (by kernel_rfl) (by kernel_rfl) (by kernel_rfl) (fun _ _ _ h => h) (Or.inl ⟨by rfl, fun w => by go_simp⟩) ?_
  go_simp
  refine wpAny_done (by kernel_rfl) ?_ _
  go_wp2_with fail
  go_ret
  exact ⟨p, rfl, unhide HW1⟩

set_option maxHeartbeats 1000000 in
theorem la_yes (W0 : World) (ao : Option Addr) (tb cap : Nat) (T : List (Int × Int)) (hT : TokIn W0 ao tb T) (hWf : Wf T) (w : World) (hw : Rd W0 (.slice ao T.length cap) 0 0 w) (h2 : 1 < T.length) (q0 : Int) (hao : ao = some ⟨tb, 0, none⟩) (k0 : w.cell? ⟨tb, 0, none⟩ = some (.int .i64 q0)) (e0 : (q0 == 1) = false) (htb : topB T 0 = true) (kk : Nat) (hkk : (sc T 0 0 0).1 = kk) :
    Calls Tryd.prog 13 #[.pointer (some ⟨W0.heap.size, 0, none⟩)] w fun e w' => ∃ p, e = .returned (.bool ((kk : Int) == (T.length : Int))) ∧ Rd W0 (.slice ao T.length cap) kk p w' := by
  have HW := hide hw
  have c0 := hw.tok
  have c1 := hw.nxt
  have f1 := hw.fr1
  have hfew := hT.few
  have HT := hide hT
  have HF := hide hWf
  subst hao
  have HTB := hide htb
  have HK := hide hkk
  clear hw hT hWf htb hkk
  go_enter Tryd.func13, Tryd.ntmps13
  go_wp2_with fail
  refine wp_region_any (by kernel_rfl) ?_
  change wpAny _ _ _ _ _ _ _ (World.drew _)
  refine wpAny_take (i := 0) (v := .pointer (some ⟨W0.heap.size, 0, none⟩)) rfl (by kernel_rfl) (by kernel_rfl) (by kernel_rfl) (fun _ _ _ h => h) (Or.inl ⟨by rfl, fun w => by go_simp⟩) ?_
  refine wpAny_ready (rs := [1]) (by kernel_rfl) (by simp) ?_
  refine AllReady.cons rfl (fun K hK => ?_) AllReady.nil
  go_simp
  go_wp2_with fail
  refine (expr_top W0 _ tb cap T (unhide HT) (unhide HF) 0 _ (by omega) (by exact (unhide HW).drew)).mono ?_
  rintro e w1 ⟨p, rfl, hw1⟩
  rw [unhide HTB]
  rw [unhide HK] at hw1
  have HW1 := hide hw1
  have d0 := hw1.tok
  have d1 := hw1.nxt
  clear hw1 c0 c1 f1
  go_wp2_with fail
  refine wpAny_take (i := 2) (v := .bool true) rfl (by kernel_rfl) (by kernel_rfl) (by kernel_rfl) (fun _ _ _ h => h) (Or.inl ⟨by rfl, fun w => by go_simp⟩) ?_
  go_simp
  refine wpAny_take (i := 3) (v := .pointer (some ⟨W0.heap.size, 0, none⟩)) rfl (by kernel_rfl) (by kernel_rfl) (by kernel_rfl) (fun _ _ _ h => h) (Or.inl ⟨by rfl, fun w => by go_simp⟩) ?_
  go_simp
  refine wpAny_take (i := 4) (v := .pointer (some ⟨W0.heap.size, 0, none⟩)) rfl (by kernel_rfl) (by kernel_rfl) (by kernel_rfl) (fun _ _ _ h => h) (Or.inl ⟨by rfl, fun w => by go_simp⟩) ?_
  go_simp
  refine wpAny_take (i := 5) (v := .pointer (some ⟨W0.heap.size, 1, none⟩)) rfl (by kernel_rfl) (by kernel_rfl) (by kernel_rfl) (fun _ _ _ h => h) (Or.inl ⟨by rfl, fun w => by go_simp⟩) ?_
  go_simp
  refine wpAny_take (i := 7) (v := .pointer (some ⟨W0.heap.size, 0, none⟩)) rfl (by kernel_rfl) (by kernel_rfl) (by kernel_rfl) (fun _ _ _ h => h) (Or.inl ⟨by rfl, fun w => by go_simp⟩) ?_
  go_simp
  refine wpAny_take (i := 8) (v := .pointer (some ⟨W0.heap.size, 0, none⟩)) rfl (by kernel_rfl) (by kernel_rfl) (by kernel_rfl) (fun _ _ _ h => h) (Or.inl ⟨by rfl, fun w => by go_simp⟩) ?_
  go_simp
  refine wpAny_take (i := 9) (v := .pointer (some ⟨W0.heap.size, 0, none⟩)) rfl (by kernel_rfl) (by kernel_rfl) (by kernel_rfl) (fun _ _ _ h => h) (Or.inl ⟨by rfl, fun w => by go_simp⟩) ?_
  go_simp
  refine wpAny_ready (rs := [6, 10]) (by kernel_rfl) (by simp) ?_
  refine AllReady.cons rfl (fun K hK => ?_) (AllReady.cons rfl (fun K hK => ?_) AllReady.nil)
  · go_simp
    refine hK _ _ ?_
    clear hK K
    refine wpAny_ready (rs := [10]) (by kernel_rfl) (by simp) ?_
    refine AllReady.cons rfl (fun K hK => ?_) AllReady.nil
    go_simp
    refine hK _ _ ?_
    clear hK K
    refine wpAny_take (i := 11) (v := .int .i64 (T.length : Int)) rfl (by kernel_rfl) (by kernel_rfl) (by kernel_rfl) (fun _ _ _ h => h) (Or.inl ⟨by rfl, fun w => by go_simp⟩) ?_
    go_simp
    refine wpAny_take (i := 12) (v := .bool ((kk : Int) == (T.length : Int))) rfl (by kernel_rfl) (by kernel_rfl) (by kernel_rfl) (fun _ _ _ h => h) (Or.inl ⟨by rfl, fun w => by go_simp⟩) ?_
    go_simp
    refine wpAny_take (i := 13) (v := .bool ((kk : Int) == (T.length : Int))) rfl (by kernel_rfl) (by kernel_rfl) (by kernel_rfl) (fun _ _ _ h => h) (Or.inl ⟨by rfl, fun w => by go_simp⟩) ?_
    go_simp
    refine wpAny_take (i := 14) (v := .bool ((kk : Int) == (T.length : Int))) rfl (by kernel_rfl) (by kernel_rfl) (by kernel_rfl) (fun _ _ _ h => h) (Or.inl ⟨by rfl, fun w => by go_simp⟩) ?_
    go_simp
    refine wpAny_done (by kernel_rfl) ?_ _
    go_wp2_with fail
    go_ret
    exact ⟨p, rfl, unhide HW1⟩
  · go_simp
    refine hK _ _ ?_
    clear hK K
    refine wpAny_take (i := 11) (v := .int .i64 (T.length : Int)) rfl (by kernel_rfl) (by kernel_rfl) (by kernel_rfl) (fun _ _ _ h => h) (Or.inl ⟨by rfl, fun w => by go_simp⟩) ?_
    go_simp
    refine wpAny_ready (rs := [6]) (by kernel_rfl) (by simp) ?_
    refine AllReady.cons rfl (fun K hK => ?_) AllReady.nil
    go_simp
    refine hK _ _ ?_
    clear hK K
    refine wpAny_take (i := 12) (v := .bool ((kk : Int) == (T.length : Int))) rfl (by kernel_rfl) (by kernel_rfl) (by kernel_rfl) (fun _ _ _ h => h) (Or.inl ⟨by rfl, fun w => by go_simp⟩) ?_
    go_simp
    refine wpAny_take (i := 13) (v := .bool ((kk : Int) == (T.length : Int))) rfl (by kernel_rfl) (by kernel_rfl) (by kernel_rfl) (fun _ _ _ h => h) (Or.inl ⟨by rfl, fun w => by go_simp⟩) ?_
    go_simp
    refine wpAny_take (i := 14) (v := .bool ((kk : Int) == (T.length : Int))) rfl (by kernel_rfl) (by kernel_rfl) (by kernel_rfl) (fun _ _ _ h => h) (Or.inl ⟨by rfl, fun w => by go_simp⟩) ?_
    go_simp
    refine wpAny_done (by kernel_rfl) ?_ _
    go_wp2_with fail
    go_ret
    exact ⟨p, rfl, unhide HW1⟩

set_option maxHeartbeats 1000000 in
theorem lb_no (W0 : World) (ao : Option Addr) (tb cap : Nat) (T : List (Int × Int)) (hT : TokIn W0 ao tb T) (hWf : Wf T) (w : World) (hw : Rd W0 (.slice ao T.length cap) 0 0 w) (h2 : 1 < T.length) (q1 : Int) (hao : ao = some ⟨tb, 0, none⟩) (k0 : w.cell? ⟨tb, 0, none⟩ = some (.int .i64 1)) (k1 : w.cell? ⟨tb, 4, none⟩ = some (.int .i64 q1)) (e1 : (q1 == 2) = false) (htb : topB T 0 = false) (kk : Nat) (hkk : (sc T 0 0 0).1 = kk) :
    Calls Tryd.prog 13 #[.pointer (some ⟨W0.heap.size, 0, none⟩)] w fun e w' => ∃ p, e = .returned (.bool false) ∧ Rd W0 (.slice ao T.length cap) kk p w' := by
  have HW := hide hw
  have c0 := hw.tok
  have c1 := hw.nxt
  have f1 := hw.fr1
  have hfew := hT.few
  have HT := hide hT
  have HF := hide hWf
  subst hao
  have HTB := hide htb
  have HK := hide hkk
  clear hw hT hWf htb hkk
  go_enter Tryd.func13, Tryd.ntmps13
  go_wp2_with fail
  refine wp_region_any (by kernel_rfl) ?_
  change wpAny _ _ _ _ _ _ _ (World.drew _)
  refine wpAny_take (i := 0) (v := .pointer (some ⟨W0.heap.size, 0, none⟩)) rfl (by kernel_rfl) (by kernel_rfl) (by kernel_rfl) (fun _ _ _ h => h) (Or.inl ⟨by rfl, fun w => by go_simp⟩) ?_
  refine wpAny_ready (rs := [1]) (by kernel_rfl) (by simp) ?_
  refine AllReady.cons rfl (fun K hK => ?_) AllReady.nil
  go_simp
  go_wp2_with fail
  refine (expr_top W0 _ tb cap T (unhide HT) (unhide HF) 0 _ (by omega) (by exact (unhide HW).drew)).mono ?_
  rintro e w1 ⟨p, rfl, hw1⟩
  rw [unhide HTB]
  rw [unhide HK] at hw1
  have HW1 := hide hw1
  clear hw1 c0 c1 f1
  go_wp2_with fail
  refine wpAny_take (i := 2) (v := .bool false) rfl (by kernel_rfl) (by kernel_rfl) (by kernel_rfl) (fun _ _ _ h => h) (Or.inl ⟨by rfl, fun w => by go_simp⟩) ?_
  go_simp
  refine wpAny_take (i := 3) (v := undef) rfl (by kernel_rfl) (by kernel_rfl) (by kernel_rfl) (fun _ _ _ h => h) (Or.inr ⟨by rfl, rfl⟩) ?_
  go_simp
  refine wpAny_take (i := 4) (v := undef) rfl (by kernel_rfl) (by kernel_rfl) (by kernel_rfl) (fun _ _ _ h => h) (Or.inr ⟨by rfl, rfl⟩) ?_
  go_simp
  refine wpAny_take (i := 5) (v := undef) rfl (by kernel_rfl) (by kernel_rfl) (by kernel_rfl) (fun _ _ _ h => h) (Or.inr ⟨by rfl, rfl⟩) ?_
  go_simp
  refine wpAny_take (i := 6) (v := undef) rfl (by kernel_rfl) (by kernel_rfl) (by kernel_rfl) (fun _ _ _ h => h) (Or.inr ⟨by rfl, rfl⟩) ?_
  go_simp
  refine wpAny_take (i := 7) (v := undef) rfl (by kernel_rfl) (by kernel_rfl) (by kernel_rfl) (fun _ _ _ h => h) (Or.inr ⟨by rfl, rfl⟩) ?_
  go_simp
  refine wpAny_take (i := 8) (v := undef) rfl (by kernel_rfl) (by kernel_rfl) (by kernel_rfl) (fun _ _ _ h => h) (Or.inr ⟨by rfl, rfl⟩) ?_
  go_simp
  refine wpAny_take (i := 9) (v := undef) rfl (by kernel_rfl) (by kernel_rfl) (by kernel_rfl) (fun _ _ _ h => h) (Or.inr ⟨by rfl, rfl⟩) ?_
  go_simp
  refine wpAny_take (i := 10) (v := undef) rfl (by kernel_rfl) (by kernel_rfl) (by kernel_rfl) (fun _ _ _ h => h) (Or.inr ⟨by rfl, rfl⟩) ?_
  go_simp
  refine wpAny_take (i := 11) (v := undef) rfl (by kernel_rfl) (by kernel_rfl) (by kernel_rfl) (fun _ _ _ h => h) (Or.inr ⟨by rfl, rfl⟩) ?_
  go_simp
  refine wpAny_take (i := 12) (v := undef) rfl (by kernel_rfl) (by kernel_rfl) (by kernel_rfl) (fun _ _ _ h => h) (Or.inr ⟨by rfl, rfl⟩) ?_
  go_simp
  refine wpAny_take (i := 13) (v := .bool false) rfl (by kernel_rfl) (by kernel_rfl) (by kernel_rfl) (fun _ _ _ h => h) (Or.inl ⟨by rfl, fun w => by go_simp⟩) ?_
  go_simp
  refine wpAny_take (i := 14) (v := .bool false) rfl (by kernel_rfl) (by kernel_rfl) (by kernel_rfl) (fun _ _ _ h => h) (Or.inl ⟨by rfl, fun w => by go_simp⟩) ?_
  go_simp
  refine wpAny_done (by kernel_rfl) ?_ _
  go_wp2_with fail
  go_ret
  exact ⟨p, rfl, unhide HW1⟩

set_option maxHeartbeats 1000000 in
theorem lb_yes (W0 : World) (ao : Option Addr) (tb cap : Nat) (T : List (Int × Int)) (hT : TokIn W0 ao tb T) (hWf : Wf T) (w : World) (hw : Rd W0 (.slice ao T.length cap) 0 0 w) (h2 : 1 < T.length) (q1 : Int) (hao : ao = some ⟨tb, 0, none⟩) (k0 : w.cell? ⟨tb, 0, none⟩ = some (.int .i64 1)) (k1 : w.cell? ⟨tb, 4, none⟩ = some (.int .i64 q1)) (e1 : (q1 == 2) = false) (htb : topB T 0 = true) (kk : Nat) (hkk : (sc T 0 0 0).1 = kk) :
    Calls Tryd.prog 13 #[.pointer (some ⟨W0.heap.size, 0, none⟩)] w fun e w' => ∃ p, e = .returned (.bool ((kk : Int) == (T.length : Int))) ∧ Rd W0 (.slice ao T.length cap) kk p w' := by
  have HW := hide hw
  have c0 := hw.tok
  have c1 := hw.nxt
  have f1 := hw.fr1
  have hfew := hT.few
  have HT := hide hT
  have HF := hide hWf
  subst hao
  have HTB := hide htb
  have HK := hide hkk
  clear hw hT hWf htb hkk
  go_enter Tryd.func13, Tryd.ntmps13
  go_wp2_with fail
  refine wp_region_any (by kernel_rfl) ?_
  change wpAny _ _ _ _ _ _ _ (World.drew _)
  refine wpAny_take (i := 0) (v := .pointer (some ⟨W0.heap.size, 0, none⟩)) rfl (by kernel_rfl) (by kernel_rfl) (by kernel_rfl) (fun _ _ _ h => h) (Or.inl ⟨by rfl, fun w => by go_simp⟩) ?_
  refine wpAny_ready (rs := [1]) (by kernel_rfl) (by simp) ?_
  refine AllReady.cons rfl (fun K hK => ?_) AllReady.nil
  go_simp
  go_wp2_with fail
  refine (expr_top W0 _ tb cap T (unhide HT) (unhide HF) 0 _ (by omega) (by exact (unhide HW).drew)).mono ?_
  rintro e w1 ⟨p, rfl, hw1⟩
  rw [unhide HTB]
  rw [unhide HK] at hw1
  have HW1 := hide hw1
  have d0 := hw1.tok
  have d1 := hw1.nxt
  clear hw1 c0 c1 f1
  go_wp2_with fail
  refine wpAny_take (i := 2) (v := .bool true) rfl (by kernel_rfl) (by kernel_rfl) (by kernel_rfl) (fun _ _ _ h => h) (Or.inl ⟨by rfl, fun w => by go_simp⟩) ?_
  go_simp
  refine wpAny_take (i := 3) (v := .pointer (some ⟨W0.heap.size, 0, none⟩)) rfl (by kernel_rfl) (by kernel_rfl) (by kernel_rfl) (fun _ _ _ h => h) (Or.inl ⟨by rfl, fun w => by go_simp⟩) ?_
  go_simp
  refine wpAny_take (i := 4) (v := .pointer (some ⟨W0.heap.size, 0, none⟩)) rfl (by kernel_rfl) (by kernel_rfl) (by kernel_rfl) (fun _ _ _ h => h) (Or.inl ⟨by rfl, fun w => by go_simp⟩) ?_
  go_simp
  refine wpAny_take (i := 5) (v := .pointer (some ⟨W0.heap.size, 1, none⟩)) rfl (by kernel_rfl) (by kernel_rfl) (by kernel_rfl) (fun _ _ _ h => h) (Or.inl ⟨by rfl, fun w => by go_simp⟩) ?_
  go_simp
  refine wpAny_take (i := 7) (v := .pointer (some ⟨W0.heap.size, 0, none⟩)) rfl (by kernel_rfl) (by kernel_rfl) (by kernel_rfl) (fun _ _ _ h => h) (Or.inl ⟨by rfl, fun w => by go_simp⟩) ?_
  go_simp
  refine wpAny_take (i := 8) (v := .pointer (some ⟨W0.heap.size, 0, none⟩)) rfl (by kernel_rfl) (by kernel_rfl) (by kernel_rfl) (fun _ _ _ h => h) (Or.inl ⟨by rfl, fun w => by go_simp⟩) ?_
  go_simp
  refine wpAny_take (i := 9) (v := .pointer (some ⟨W0.heap.size, 0, none⟩)) rfl (by kernel_rfl) (by kernel_rfl) (by kernel_rfl) (fun _ _ _ h => h) (Or.inl ⟨by rfl, fun w => by go_simp⟩) ?_
  go_simp
  refine wpAny_ready (rs := [6, 10]) (by kernel_rfl) (by simp) ?_
  refine AllReady.cons rfl (fun K hK => ?_) (AllReady.cons rfl (fun K hK => ?_) AllReady.nil)
  · go_simp
    refine hK _ _ ?_
    clear hK K
    refine wpAny_ready (rs := [10]) (by kernel_rfl) (by simp) ?_
    refine AllReady.cons rfl (fun K hK => ?_) AllReady.nil
    go_simp
    refine hK _ _ ?_
    clear hK K
    refine wpAny_take (i := 11) (v := .int .i64 (T.length : Int)) rfl (by kernel_rfl) (by kernel_rfl) (by kernel_rfl) (fun _ _ _ h => h) (Or.inl ⟨by rfl, fun w => by go_simp⟩) ?_
    go_simp
    refine wpAny_take (i := 12) (v := .bool ((kk : Int) == (T.length : Int))) rfl (by kernel_rfl) (by kernel_rfl) (by kernel_rfl) (fun _ _ _ h => h) (Or.inl ⟨by rfl, fun w => by go_simp⟩) ?_
    go_simp
    refine wpAny_take (i := 13) (v := .bool ((kk : Int) == (T.length : Int))) rfl (by kernel_rfl) (by kernel_rfl) (by kernel_rfl) (fun _ _ _ h => h) (Or.inl ⟨by rfl, fun w => by go_simp⟩) ?_
    go_simp
    refine wpAny_take (i := 14) (v := .bool ((kk : Int) == (T.length : Int))) rfl (by kernel_rfl) (by kernel_rfl) (by kernel_rfl) (fun _ _ _ h => h) (Or.inl ⟨by rfl, fun w => by go_simp⟩) ?_
    go_simp
    refine wpAny_done (by kernel_rfl) ?_ _
    go_wp2_with fail
    go_ret
    exact ⟨p, rfl, unhide HW1⟩
  · go_simp
    refine hK _ _ ?_
    clear hK K
    refine wpAny_take (i := 11) (v := .int .i64 (T.length : Int)) rfl (by kernel_rfl) (by kernel_rfl) (by kernel_rfl) (fun _ _ _ h => h) (Or.inl ⟨by rfl, fun w => by go_simp⟩) ?_
    go_simp
    refine wpAny_ready (rs := [6]) (by kernel_rfl) (by simp) ?_
    refine AllReady.cons rfl (fun K hK => ?_) AllReady.nil
    go_simp
    refine hK _ _ ?_
    clear hK K
    refine wpAny_take (i := 12) (v := .bool ((kk : Int) == (T.length : Int))) rfl (by kernel_rfl) (by kernel_rfl) (by kernel_rfl) (fun _ _ _ h => h) (Or.inl ⟨by rfl, fun w => by go_simp⟩) ?_
    go_simp
    refine wpAny_take (i := 13) (v := .bool ((kk : Int) == (T.length : Int))) rfl (by kernel_rfl) (by kernel_rfl) (by kernel_rfl) (fun _ _ _ h => h) (Or.inl ⟨by rfl, fun w => by go_simp⟩) ?_
    go_simp
    refine wpAny_take (i := 14) (v := .bool ((kk : Int) == (T.length : Int))) rfl (by kernel_rfl) (by kernel_rfl) (by kernel_rfl) (fun _ _ _ h => h) (Or.inl ⟨by rfl, fun w => by go_simp⟩) ?_
    go_simp
    refine wpAny_done (by kernel_rfl) ?_ _
    go_wp2_with fail
    go_ret
    exact ⟨p, rfl, unhide HW1⟩

set_option maxHeartbeats 1000000 in
theorem lc_no (W0 : World) (ao : Option Addr) (tb cap : Nat) (T : List (Int × Int)) (hT : TokIn W0 ao tb T) (hWf : Wf T) (w : World) (hw : Rd W0 (.slice ao T.length cap) 0 0 w) (h2 : 1 < T.length) (hao : ao = some ⟨tb, 0, none⟩) (k0 : w.cell? ⟨tb, 0, none⟩ = some (.int .i64 1)) (k1 : w.cell? ⟨tb, 4, none⟩ = some (.int .i64 2)) (htb : topB T 2 = false) (kk : Nat) (hkk : (sc T 2 0 0).1 = kk) :
    Calls Tryd.prog 13 #[.pointer (some ⟨W0.heap.size, 0, none⟩)] w fun e w' => ∃ p, e = .returned (.bool false) ∧ Rd W0 (.slice ao T.length cap) kk p w' := by
  have HW := hide hw
  have c0 := hw.tok
  have c1 := hw.nxt
  have f1 := hw.fr1
  have hfew := hT.few
  have HT := hide hT
  have HF := hide hWf
  subst hao
  have HTB := hide htb
  have HK := hide hkk
  clear hw hT hWf htb hkk
  go_enter Tryd.func13, Tryd.ntmps13
  go_wp2_with fail
  refine wp_region_any (by kernel_rfl) ?_
  change wpAny _ _ _ _ _ _ _ (World.drew _)
  refine wpAny_take (i := 0) (v := .pointer (some ⟨W0.heap.size, 0, none⟩)) rfl (by kernel_rfl) (by kernel_rfl) (by kernel_rfl) (fun _ _ _ h => h) (Or.inl ⟨by rfl, fun w => by go_simp⟩) ?_
  refine wpAny_ready (rs := [1]) (by kernel_rfl) (by simp) ?_
  refine AllReady.cons rfl (fun K hK => ?_) AllReady.nil
  go_simp
  go_wp2_with fail
  refine (expr_top W0 _ tb cap T (unhide HT) (unhide HF) 2 _ (by omega) (by exact ((unhide HW).next 2).drew)).mono ?_
  rintro e w1 ⟨p, rfl, hw1⟩
  rw [unhide HTB]
  rw [unhide HK] at hw1
  have HW1 := hide hw1
  clear hw1 c0 c1 f1
  go_wp2_with fail
  refine wpAny_take (i := 2) (v := .bool false) rfl (by kernel_rfl) (by kernel_rfl) (by kernel_rfl) (fun _ _ _ h => h) (Or.inl ⟨by rfl, fun w => by go_simp⟩) ?_
  go_simp
  refine wpAny_take (i := 3) (v := undef) rfl (by kernel_rfl) (by kernel_rfl) (by kernel_rfl) (fun _ _ _ h => h) (Or.inr ⟨by rfl, rfl⟩) ?_
  go_simp
  refine wpAny_take (i := 4) (v := undef) rfl (by kernel_rfl) (by kernel_rfl) (by kernel_rfl) (fun _ _ _ h => h) (Or.inr ⟨by rfl, rfl⟩) ?_
  go_simp
  refine wpAny_take (i := 5) (v := undef) rfl (by kernel_rfl) (by kernel_rfl) (by kernel_rfl) (fun _ _ _ h => h) (Or.inr ⟨by rfl, rfl⟩) ?_
  go_simp
  refine wpAny_take (i := 6) (v := undef) rfl (by kernel_rfl) (by kernel_rfl) (by kernel_rfl) (fun _ _ _ h => h) (Or.inr ⟨by rfl, rfl⟩) ?_
  go_simp
  refine wpAny_take (i := 7) (v := undef) rfl (by kernel_rfl) (by kernel_rfl) (by kernel_rfl) (fun _ _ _ h => h) (Or.inr ⟨by rfl, rfl⟩) ?_
  go_simp
  refine wpAny_take (i := 8) (v := undef) rfl (by kernel_rfl) (by kernel_rfl) (by kernel_rfl) (fun _ _ _ h => h) (Or.inr ⟨by rfl, rfl⟩) ?_
  go_simp
  refine wpAny_take (i := 9) (v := undef) rfl (by kernel_rfl) (by kernel_rfl) (by kernel_rfl) (fun _ _ _ h => h) (Or.inr ⟨by rfl, rfl⟩) ?_
  go_simp
  refine wpAny_take (i := 10) (v := undef) rfl (by kernel_rfl) (by kernel_rfl) (by kernel_rfl) (fun _ _ _ h => h) (Or.inr ⟨by rfl, rfl⟩) ?_
  go_simp
  refine wpAny_take (i := 11) (v := undef) rfl (by kernel_rfl) (by kernel_rfl) (by kernel_rfl) (fun _ _ _ h => h) (Or.inr ⟨by rfl, rfl⟩) ?_
  go_simp
  refine wpAny_take (i := 12) (v := undef) rfl (by kernel_rfl) (by kernel_rfl) (by kernel_rfl) (fun _ _ _ h => h) (Or.inr ⟨by rfl, rfl⟩) ?_
  go_simp
  refine wpAny_take (i := 13) (v := .bool false) rfl (by kernel_rfl) (by kernel_rfl) (by kernel_rfl) (fun _ _ _ h => h) (Or.inl ⟨by rfl, fun w => by go_simp⟩) ?_
  go_simp
  refine wpAny_take (i := 14) (v := .bool false) rfl (by kernel_rfl) (by kernel_rfl) (by kernel_rfl) (fun _ _ _ h => h) (Or.inl ⟨by rfl, fun w => by go_simp⟩) ?_
  go_simp
  refine wpAny_done (by kernel_rfl) ?_ _
  go_wp2_with fail
  go_ret
  exact ⟨p, rfl, unhide HW1⟩

set_option maxHeartbeats 1000000 in
theorem lc_yes (W0 : World) (ao : Option Addr) (tb cap : Nat) (T : List (Int × Int)) (hT : TokIn W0 ao tb T) (hWf : Wf T) (w : World) (hw : Rd W0 (.slice ao T.length cap) 0 0 w) (h2 : 1 < T.length) (hao : ao = some ⟨tb, 0, none⟩) (k0 : w.cell? ⟨tb, 0, none⟩ = some (.int .i64 1)) (k1 : w.cell? ⟨tb, 4, none⟩ = some (.int .i64 2)) (htb : topB T 2 = true) (kk : Nat) (hkk : (sc T 2 0 0).1 = kk) :
    Calls Tryd.prog 13 #[.pointer (some ⟨W0.heap.size, 0, none⟩)] w fun e w' => ∃ p, e = .returned (.bool ((kk : Int) == (T.length : Int))) ∧ Rd W0 (.slice ao T.length cap) kk p w' := by
  have HW := hide hw
  have c0 := hw.tok
  have c1 := hw.nxt
  have f1 := hw.fr1
  have hfew := hT.few
  have HT := hide hT
  have HF := hide hWf
  subst hao
  have HTB := hide htb
  have HK := hide hkk
  clear hw hT hWf htb hkk
  go_enter Tryd.func13, Tryd.ntmps13
  go_wp2_with fail
  refine wp_region_any (by kernel_rfl) ?_
  change wpAny _ _ _ _ _ _ _ (World.drew _)
  refine wpAny_take (i := 0) (v := .pointer (some ⟨W0.heap.size, 0, none⟩)) rfl (by kernel_rfl) (by kernel_rfl) (by kernel_rfl) (fun _ _ _ h => h) (Or.inl ⟨by rfl, fun w => by go_simp⟩) ?_
  refine wpAny_ready (rs := [1]) (by kernel_rfl) (by simp) ?_
  refine AllReady.cons rfl (fun K hK => ?_) AllReady.nil
  go_simp
  go_wp2_with fail
  refine (expr_top W0 _ tb cap T (unhide HT) (unhide HF) 2 _ (by omega) (by exact ((unhide HW).next 2).drew)).mono ?_
  rintro e w1 ⟨p, rfl, hw1⟩
  rw [unhide HTB]
  rw [unhide HK] at hw1
  have HW1 := hide hw1
  have d0 := hw1.tok
  have d1 := hw1.nxt
  clear hw1 c0 c1 f1
  go_wp2_with fail
  refine wpAny_take (i := 2) (v := .bool true) rfl (by kernel_rfl) (by kernel_rfl) (by kernel_rfl) (fun _ _ _ h => h) (Or.inl ⟨by rfl, fun w => by go_simp⟩) ?_
  go_simp
  refine wpAny_take (i := 3) (v := .pointer (some ⟨W0.heap.size, 0, none⟩)) rfl (by kernel_rfl) (by kernel_rfl) (by kernel_rfl) (fun _ _ _ h => h) (Or.inl ⟨by rfl, fun w => by go_simp⟩) ?_
  go_simp
  refine wpAny_take (i := 4) (v := .pointer (some ⟨W0.heap.size, 0, none⟩)) rfl (by kernel_rfl) (by kernel_rfl) (by kernel_rfl) (fun _ _ _ h => h) (Or.inl ⟨by rfl, fun w => by go_simp⟩) ?_
  go_simp
  refine wpAny_take (i := 5) (v := .pointer (some ⟨W0.heap.size, 1, none⟩)) rfl (by kernel_rfl) (by kernel_rfl) (by kernel_rfl) (fun _ _ _ h => h) (Or.inl ⟨by rfl, fun w => by go_simp⟩) ?_
  go_simp
  refine wpAny_take (i := 7) (v := .pointer (some ⟨W0.heap.size, 0, none⟩)) rfl (by kernel_rfl) (by kernel_rfl) (by kernel_rfl) (fun _ _ _ h => h) (Or.inl ⟨by rfl, fun w => by go_simp⟩) ?_
  go_simp
  refine wpAny_take (i := 8) (v := .pointer (some ⟨W0.heap.size, 0, none⟩)) rfl (by kernel_rfl) (by kernel_rfl) (by kernel_rfl) (fun _ _ _ h => h) (Or.inl ⟨by rfl, fun w => by go_simp⟩) ?_
  go_simp
  refine wpAny_take (i := 9) (v := .pointer (some ⟨W0.heap.size, 0, none⟩)) rfl (by kernel_rfl) (by kernel_rfl) (by kernel_rfl) (fun _ _ _ h => h) (Or.inl ⟨by rfl, fun w => by go_simp⟩) ?_
  go_simp
  refine wpAny_ready (rs := [6, 10]) (by kernel_rfl) (by simp) ?_
  refine AllReady.cons rfl (fun K hK => ?_) (AllReady.cons rfl (fun K hK => ?_) AllReady.nil)
  · go_simp
    refine hK _ _ ?_
    clear hK K
    refine wpAny_ready (rs := [10]) (by kernel_rfl) (by simp) ?_
    refine AllReady.cons rfl (fun K hK => ?_) AllReady.nil
    go_simp
    refine hK _ _ ?_
    clear hK K
    refine wpAny_take (i := 11) (v := .int .i64 (T.length : Int)) rfl (by kernel_rfl) (by kernel_rfl) (by kernel_rfl) (fun _ _ _ h => h) (Or.inl ⟨by rfl, fun w => by go_simp⟩) ?_
    go_simp
    refine wpAny_take (i := 12) (v := .bool ((kk : Int) == (T.length : Int))) rfl (by kernel_rfl) (by kernel_rfl) (by kernel_rfl) (fun _ _ _ h => h) (Or.inl ⟨by rfl, fun w => by go_simp⟩) ?_
    go_simp
    refine wpAny_take (i := 13) (v := .bool ((kk : Int) == (T.length : Int))) rfl (by kernel_rfl) (by kernel_rfl) (by kernel_rfl) (fun _ _ _ h => h) (Or.inl ⟨by rfl, fun w => by go_simp⟩) ?_
    go_simp
    refine wpAny_take (i := 14) (v := .bool ((kk : Int) == (T.length : Int))) rfl (by kernel_rfl) (by kernel_rfl) (by kernel_rfl) (fun _ _ _ h => h) (Or.inl ⟨by rfl, fun w => by go_simp⟩) ?_
    go_simp
    refine wpAny_done (by kernel_rfl) ?_ _
    go_wp2_with fail
    go_ret
    exact ⟨p, rfl, unhide HW1⟩
  · go_simp
    refine hK _ _ ?_
    clear hK K
    refine wpAny_take (i := 11) (v := .int .i64 (T.length : Int)) rfl (by kernel_rfl) (by kernel_rfl) (by kernel_rfl) (fun _ _ _ h => h) (Or.inl ⟨by rfl, fun w => by go_simp⟩) ?_
    go_simp
    refine wpAny_ready (rs := [6]) (by kernel_rfl) (by simp) ?_
    refine AllReady.cons rfl (fun K hK => ?_) AllReady.nil
    go_simp
    refine hK _ _ ?_
    clear hK K
    refine wpAny_take (i := 12) (v := .bool ((kk : Int) == (T.length : Int))) rfl (by kernel_rfl) (by kernel_rfl) (by kernel_rfl) (fun _ _ _ h => h) (Or.inl ⟨by rfl, fun w => by go_simp⟩) ?_
    go_simp
    refine wpAny_take (i := 13) (v := .bool ((kk : Int) == (T.length : Int))) rfl (by kernel_rfl) (by kernel_rfl) (by kernel_rfl) (fun _ _ _ h => h) (Or.inl ⟨by rfl, fun w => by go_simp⟩) ?_
    go_simp
    refine wpAny_take (i := 14) (v := .bool ((kk : Int) == (T.length : Int))) rfl (by kernel_rfl) (by kernel_rfl) (by kernel_rfl) (fun _ _ _ h => h) (Or.inl ⟨by rfl, fun w => by go_simp⟩) ?_
    go_simp
    refine wpAny_done (by kernel_rfl) ?_ _
    go_wp2_with fail
    go_ret
    exact ⟨p, rfl, unhide HW1⟩

set_option maxHeartbeats 1000000 in
theorem ld_no (W0 : World) (ao : Option Addr) (tb cap : Nat) (T : List (Int × Int)) (hT : TokIn W0 ao tb T) (hWf : Wf T) (w : World) (hw : Rd W0 (.slice ao T.length cap) 0 0 w) (h2 : T.length ≤ 1) (htb : topB T 0 = false) (kk : Nat) (hkk : (sc T 0 0 0).1 = kk) :
    Calls Tryd.prog 13 #[.pointer (some ⟨W0.heap.size, 0, none⟩)] w fun e w' => ∃ p, e = .returned (.bool false) ∧ Rd W0 (.slice ao T.length cap) kk p w' := by
  have HW := hide hw
  have c0 := hw.tok
  have c1 := hw.nxt
  have f1 := hw.fr1
  have hfew := hT.few
  have HT := hide hT
  have HF := hide hWf
  have HTB := hide htb
  have HK := hide hkk
  clear hw hT hWf htb hkk
  go_enter Tryd.func13, Tryd.ntmps13
  go_wp2_with fail
  refine wp_region_any (by kernel_rfl) ?_
  change wpAny _ _ _ _ _ _ _ (World.drew _)
  refine wpAny_take (i := 0) (v := .pointer (some ⟨W0.heap.size, 0, none⟩)) rfl (by kernel_rfl) (by kernel_rfl) (by kernel_rfl) (fun _ _ _ h => h) (Or.inl ⟨by rfl, fun w => by go_simp⟩) ?_
  refine wpAny_ready (rs := [1]) (by kernel_rfl) (by simp) ?_
  refine AllReady.cons rfl (fun K hK => ?_) AllReady.nil
  go_simp
  go_wp2_with fail
  refine (expr_top W0 _ tb cap T (unhide HT) (unhide HF) 0 _ (by omega) (by exact (unhide HW).drew)).mono ?_
  rintro e w1 ⟨p, rfl, hw1⟩
  rw [unhide HTB]
  rw [unhide HK] at hw1
  have HW1 := hide hw1
  clear hw1 c0 c1 f1
  go_wp2_with fail
  refine wpAny_take (i := 2) (v := .bool false) rfl (by kernel_rfl) (by kernel_rfl) (by kernel_rfl) (fun _ _ _ h => h) (Or.inl ⟨by rfl, fun w => by go_simp⟩) ?_
  go_simp
  refine wpAny_take (i := 3) (v := undef) rfl (by kernel_rfl) (by kernel_rfl) (by kernel_rfl) (fun _ _ _ h => h) (Or.inr ⟨by rfl, rfl⟩) ?_
  go_simp
  refine wpAny_take (i := 4) (v := undef) rfl (by kernel_rfl) (by kernel_rfl) (by kernel_rfl) (fun _ _ _ h => h) (Or.inr ⟨by rfl, rfl⟩) ?_
  go_simp
  refine wpAny_take (i := 5) (v := undef) rfl (by kernel_rfl) (by kernel_rfl) (by kernel_rfl) (fun _ _ _ h => h) (Or.inr ⟨by rfl, rfl⟩) ?_
  go_simp
  refine wpAny_take (i := 6) (v := undef) rfl (by kernel_rfl) (by kernel_rfl) (by kernel_rfl) (fun _ _ _ h => h) (Or.inr ⟨by rfl, rfl⟩) ?_
  go_simp
  refine wpAny_take (i := 7) (v := undef) rfl (by kernel_rfl) (by kernel_rfl) (by kernel_rfl) (fun _ _ _ h => h) (Or.inr ⟨by rfl, rfl⟩) ?_
  go_simp
  refine wpAny_take (i := 8) (v := undef) rfl (by kernel_rfl) (by kernel_rfl) (by kernel_rfl) (fun _ _ _ h => h) (Or.inr ⟨by rfl, rfl⟩) ?_
  go_simp
  refine wpAny_take (i := 9) (v := undef) rfl (by kernel_rfl) (by kernel_rfl) (by kernel_rfl) (fun _ _ _ h => h) (Or.inr ⟨by rfl, rfl⟩) ?_
  go_simp
  refine wpAny_take (i := 10) (v := undef) rfl (by kernel_rfl) (by kernel_rfl) (by kernel_rfl) (fun _ _ _ h => h) (Or.inr ⟨by rfl, rfl⟩) ?_
  go_simp
  refine wpAny_take (i := 11) (v := undef) rfl (by kernel_rfl) (by kernel_rfl) (by kernel_rfl) (fun _ _ _ h => h) (Or.inr ⟨by rfl, rfl⟩) ?_
  go_simp
  refine wpAny_take (i := 12) (v := undef) rfl (by kernel_rfl) (by kernel_rfl) (by kernel_rfl) (fun _ _ _ h => h) (Or.inr ⟨by rfl, rfl⟩) ?_
  go_simp
  refine wpAny_take (i := 13) (v := .bool false) rfl (by kernel_rfl) (by kernel_rfl) (by kernel_rfl) (fun _ _ _ h => h) (Or.inl ⟨by rfl, fun w => by go_simp⟩) ?_
  go_simp
  refine wpAny_take (i := 14) (v := .bool false) rfl (by kernel_rfl) (by kernel_rfl) (by kernel_rfl) (fun _ _ _ h => h) (Or.inl ⟨by rfl, fun w => by go_simp⟩) ?_
  go_simp
  refine wpAny_done (by kernel_rfl) ?_ _
  go_wp2_with fail
  go_ret
  exact ⟨p, rfl, unhide HW1⟩

set_option maxHeartbeats 1000000 in
theorem ld_yes (W0 : World) (ao : Option Addr) (tb cap : Nat) (T : List (Int × Int)) (hT : TokIn W0 ao tb T) (hWf : Wf T) (w : World) (hw : Rd W0 (.slice ao T.length cap) 0 0 w) (h2 : T.length ≤ 1) (htb : topB T 0 = true) (kk : Nat) (hkk : (sc T 0 0 0).1 = kk) :
    Calls Tryd.prog 13 #[.pointer (some ⟨W0.heap.size, 0, none⟩)] w fun e w' => ∃ p, e = .returned (.bool ((kk : Int) == (T.length : Int))) ∧ Rd W0 (.slice ao T.length cap) kk p w' := by
  have HW := hide hw
  have c0 := hw.tok
  have c1 := hw.nxt
  have f1 := hw.fr1
  have hfew := hT.few
  have HT := hide hT
  have HF := hide hWf
  have HTB := hide htb
  have HK := hide hkk
  clear hw hT hWf htb hkk
  go_enter Tryd.func13, Tryd.ntmps13
  go_wp2_with fail
  refine wp_region_any (by kernel_rfl) ?_
  change wpAny _ _ _ _ _ _ _ (World.drew _)
  refine wpAny_take (i := 0) (v := .pointer (some ⟨W0.heap.size, 0, none⟩)) rfl (by kernel_rfl) (by kernel_rfl) (by kernel_rfl) (fun _ _ _ h => h) (Or.inl ⟨by rfl, fun w => by go_simp⟩) ?_
  refine wpAny_ready (rs := [1]) (by kernel_rfl) (by simp) ?_
  refine AllReady.cons rfl (fun K hK => ?_) AllReady.nil
  go_simp
  go_wp2_with fail
  refine (expr_top W0 _ tb cap T (unhide HT) (unhide HF) 0 _ (by omega) (by exact (unhide HW).drew)).mono ?_
  rintro e w1 ⟨p, rfl, hw1⟩
  rw [unhide HTB]
  rw [unhide HK] at hw1
  have HW1 := hide hw1
  have d0 := hw1.tok
  have d1 := hw1.nxt
  clear hw1 c0 c1 f1
  go_wp2_with fail
  refine wpAny_take (i := 2) (v := .bool true) rfl (by kernel_rfl) (by kernel_rfl) (by kernel_rfl) (fun _ _ _ h => h) (Or.inl ⟨by rfl, fun w => by go_simp⟩) ?_
  go_simp
  refine wpAny_take (i := 3) (v := .pointer (some ⟨W0.heap.size, 0, none⟩)) rfl (by kernel_rfl) (by kernel_rfl) (by kernel_rfl) (fun _ _ _ h => h) (Or.inl ⟨by rfl, fun w => by go_simp⟩) ?_
  go_simp
  refine wpAny_take (i := 4) (v := .pointer (some ⟨W0.heap.size, 0, none⟩)) rfl (by kernel_rfl) (by kernel_rfl) (by kernel_rfl) (fun _ _ _ h => h) (Or.inl ⟨by rfl, fun w => by go_simp⟩) ?_
  go_simp
  refine wpAny_take (i := 5) (v := .pointer (some ⟨W0.heap.size, 1, none⟩)) rfl (by kernel_rfl) (by kernel_rfl) (by kernel_rfl) (fun _ _ _ h => h) (Or.inl ⟨by rfl, fun w => by go_simp⟩) ?_
  go_simp
  refine wpAny_take (i := 7) (v := .pointer (some ⟨W0.heap.size, 0, none⟩)) rfl (by kernel_rfl) (by kernel_rfl) (by kernel_rfl) (fun _ _ _ h => h) (Or.inl ⟨by rfl, fun w => by go_simp⟩) ?_
  go_simp
  refine wpAny_take (i := 8) (v := .pointer (some ⟨W0.heap.size, 0, none⟩)) rfl (by kernel_rfl) (by kernel_rfl) (by kernel_rfl) (fun _ _ _ h => h) (Or.inl ⟨by rfl, fun w => by go_simp⟩) ?_
  go_simp
  refine wpAny_take (i := 9) (v := .pointer (some ⟨W0.heap.size, 0, none⟩)) rfl (by kernel_rfl) (by kernel_rfl) (by kernel_rfl) (fun _ _ _ h => h) (Or.inl ⟨by rfl, fun w => by go_simp⟩) ?_
  go_simp
  refine wpAny_ready (rs := [6, 10]) (by kernel_rfl) (by simp) ?_
  refine AllReady.cons rfl (fun K hK => ?_) (AllReady.cons rfl (fun K hK => ?_) AllReady.nil)
  · go_simp
    refine hK _ _ ?_
    clear hK K
    refine wpAny_ready (rs := [10]) (by kernel_rfl) (by simp) ?_
    refine AllReady.cons rfl (fun K hK => ?_) AllReady.nil
    go_simp
    refine hK _ _ ?_
    clear hK K
    refine wpAny_take (i := 11) (v := .int .i64 (T.length : Int)) rfl (by kernel_rfl) (by kernel_rfl) (by kernel_rfl) (fun _ _ _ h => h) (Or.inl ⟨by rfl, fun w => by go_simp⟩) ?_
    go_simp
    refine wpAny_take (i := 12) (v := .bool ((kk : Int) == (T.length : Int))) rfl (by kernel_rfl) (by kernel_rfl) (by kernel_rfl) (fun _ _ _ h => h) (Or.inl ⟨by rfl, fun w => by go_simp⟩) ?_
    go_simp
    refine wpAny_take (i := 13) (v := .bool ((kk : Int) == (T.length : Int))) rfl (by kernel_rfl) (by kernel_rfl) (by kernel_rfl) (fun _ _ _ h => h) (Or.inl ⟨by rfl, fun w => by go_simp⟩) ?_
    go_simp
    refine wpAny_take (i := 14) (v := .bool ((kk : Int) == (T.length : Int))) rfl (by kernel_rfl) (by kernel_rfl) (by kernel_rfl) (fun _ _ _ h => h) (Or.inl ⟨by rfl, fun w => by go_simp⟩) ?_
    go_simp
    refine wpAny_done (by kernel_rfl) ?_ _
    go_wp2_with fail
    go_ret
    exact ⟨p, rfl, unhide HW1⟩
  · go_simp
    refine hK _ _ ?_
    clear hK K
    refine wpAny_take (i := 11) (v := .int .i64 (T.length : Int)) rfl (by kernel_rfl) (by kernel_rfl) (by kernel_rfl) (fun _ _ _ h => h) (Or.inl ⟨by rfl, fun w => by go_simp⟩) ?_
    go_simp
    refine wpAny_ready (rs := [6]) (by kernel_rfl) (by simp) ?_
    refine AllReady.cons rfl (fun K hK => ?_) AllReady.nil
    go_simp
    refine hK _ _ ?_
    clear hK K
    refine wpAny_take (i := 12) (v := .bool ((kk : Int) == (T.length : Int))) rfl (by kernel_rfl) (by kernel_rfl) (by kernel_rfl) (fun _ _ _ h => h) (Or.inl ⟨by rfl, fun w => by go_simp⟩) ?_
    go_simp
    refine wpAny_take (i := 13) (v := .bool ((kk : Int) == (T.length : Int))) rfl (by kernel_rfl) (by kernel_rfl) (by kernel_rfl) (fun _ _ _ h => h) (Or.inl ⟨by rfl, fun w => by go_simp⟩) ?_
    go_simp
    refine wpAny_take (i := 14) (v := .bool ((kk : Int) == (T.length : Int))) rfl (by kernel_rfl) (by kernel_rfl) (by kernel_rfl) (fun _ _ _ h => h) (Or.inl ⟨by rfl, fun w => by go_simp⟩) ?_
    go_simp
    refine wpAny_done (by kernel_rfl) ?_ _
    go_wp2_with fail
    go_ret
    exact ⟨p, rfl, unhide HW1⟩
end Go.Proofs.YtccbhcbbianpoaaDoor
