import Derived.Test.YtmleaaagehomjaaDoorWz
import Derived.Test.YtmleaaagehomjaaDoorSi
namespace Go.Proofs.YtmleaaagehomjaaDoor
open Go.RowKit

set_option maxHeartbeats 400000 in
theorem p4_any (s : ByteArray) (w : World) (hv : Evs w) (hm : s.size ≤ 9223372036854775807) :
    Calls Tryd.prog 4 #[.string s] w fun e w' => e = .returned (.bool true) ∧ Below w.heap.size w w' := by
  have HV := hide hv
  have H5 := hide (parse_any s w hv hm)
  have H6 := hide (fun W => read_any s W hm)
  obtain ⟨a, ha⟩ : ∃ a, (parseP s).1 = a := ⟨_, rfl⟩
  obtain ⟨b, hb⟩ : ∃ b, (parseP s).2 = b := ⟨_, rfl⟩
  rw [ha, hb] at H5
  simp only [ha, hb] at H6
  clear hv ha hb hm
  have eqa : (a == a) = true := by simp
  have eqb : (b == b) = true := by simp
  go_enter Tryd.func4, Tryd.ntmps4
  go_wp2_with fail
  refine (unhide H5).mono ?_
  rintro e w1 ⟨rfl, hb1⟩
  go_wp2_with fail
  refine (unhide H6 _).mono ?_
  rintro e w2 ⟨v0, v3, rfl, hb2⟩
  go_wp2_with fail
  go_ret
  exact ⟨rfl, below2 hb1 hb2⟩
end Go.Proofs.YtmleaaagehomjaaDoor
