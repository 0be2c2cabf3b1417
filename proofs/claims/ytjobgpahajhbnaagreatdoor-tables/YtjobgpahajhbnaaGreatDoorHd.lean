import Derived.Test.YtjobgpahajhbnaaGreatDoorCg
import Derived.Stop.RegionWithIn
import Derived.Test.YtjobgpahajhbnaaGreatDoorMd
import Derived.Test.YtjobgpahajhbnaaGreatDoorJb
import Derived.Test.YtjobgpahajhbnaaGreatDoorTe
namespace Go.Proofs.YtjobgpahajhbnaaGreatDoor
open Go.RowKit Go.Proofs Go.Shelf
attribute [local go_sem] Oper.semAt_some

theorem Tryz.enters186 : Enters Tryz.prog 186 := Go.Proofs.enters_of Tryz.func186 (by decide) rfl
/-- parts of a row, each turned round -/
def revs {n : Nat} (pre : List (Part n)) (L : List Int) : List Int := pre.foldl (fun L p => revAt L p.1) L
theorem revs_len {n : Nat} : ∀ (pre : List (Part n)) (L : List Int), L.length = n → (revs pre L).length = n
  | [], L, h => h
  | p :: pre, L, h => revs_len pre (revAt L p.1) (by rw [revAt_len (by rw [h]; exact p.2.1)]; exact h)
theorem revs_snoc {n : Nat} (pre : List (Part n)) (x : Part n) (L : List Int) : revs (pre ++ [x]) L = revAt (revs pre L) x.1 := by
  unfold revs
  rw [List.foldl_append]
  rfl
theorem max_pos (n : Nat) : 0 < max n 1 := by omega
def revC (xs : List Int) (la : Nat) : List Int := revs (partsL xs.length (max la 1) (max_pos la) xs.length) xs
def revP (a : Arr) : Arr × Int := if a.shape.length = 0 then (a, 0) else (⟨a.shape, revC a.cells (lastN a.shape)⟩, 0)
theorem clone_row {Q : Nat → Prop} (w : World) (ao : Option Addr) (n cap : Nat) (xs : List Int) (h : Nums Q w (.slice ao n cap) xs) (hx : xs.length ≤ 200) :
    Calls Tryz.prog 80 #[.slice ao n cap] w fun e w' => ∃ ao' g c, e = .returned (.slice ao' n c) ∧ n ≤ c ∧ (0 < n → ao' = some ⟨g, 0, none⟩ ∧ w.heap.size ≤ g ∧ g < w'.heap.size ∧ RowAt w' g xs) ∧ (∀ a, ao' = some a → a.spot = none) ∧ Below w.heap.size w w' := by
  have hn := nums_len h
  by_cases h0 : 0 < n
  · obtain ⟨ao', cap', hv, _, hcell, hspot⟩ := h
    injection hv with e1 e2 e3
    subst e1 e3
    obtain ⟨b, off, rfl, _, _, hc⟩ := hcell (by omega)
    obtain ⟨i0, hi, hz0, hz1, hz2⟩ := info_parts Tryz.info2
    refine (Tryz.slices_Clone_f80 i0 (.int .i64 0) 1 8 hi hz0 hz1 hz2 rfl (by decide) (fun w => by kernel_rfl) b off n cap (xs.map (Value.int .i64)) w (by simp [hn]) (by unfold maxLen; omega) (by omega) ?_ ?_).mono ?_
    · intro j u hu
      obtain ⟨hj, rfl⟩ := maps_get hu
      exact hc j hj
    · intro u hu
      obtain ⟨y, _, rfl⟩ := List.mem_map.1 hu
      rfl
    · rintro e w' ⟨v', rfl, hown, _, hb⟩
      have hown2 := hown
      obtain ⟨hl, ⟨rfl, hz⟩ | ⟨g, c, cur, rfl, r⟩⟩ := hown
      · omega
      · refine ⟨_, g, c, rfl, r.2.2.1, fun _ => ⟨rfl, r.1, (hown2.lt g rfl).2, fun j hj => ⟨?_, hown2.frozenAt j⟩⟩, fun a h => by cases h; rfl, hb⟩
        rw [hown2.cellAt j (by omega)]
        simp [hj]
  · refine (clone80 (fun _ => True) w (fun _ _ => trivial) (.slice ao n cap) xs h hx).mono ?_
    rintro e w' ⟨so, sn, sc, rfl, hN, hb⟩
    have hn' := nums_len hN
    have e1 : sn = n := by omega
    subst e1
    have hcp := nums_cap hN
    obtain ⟨ao', cap', hv, _, _, hsp⟩ := hN
    injection hv with e1 e2 e3
    subst e1
    exact ⟨so, 0, sc, rfl, hcp, fun h => absurd h h0, hsp, hb⟩
/-- where a function of one array stands: its box and its answer -/
structure S1 (W w : World) (so : Option Addr) (sn sc : Nat) (co : Option Addr) (cn cc : Nat) : Prop where
  below : Below W.heap.size W w
  lt : W.heap.size + 1 < w.heap.size
  b0 : w.cell? ⟨W.heap.size, 0, none⟩ = some (.slice so sn sc)
  b1 : w.cell? ⟨W.heap.size, 1, none⟩ = some (.slice co cn cc)
  r0 : w.cell? ⟨W.heap.size + 1, 0, none⟩ = some (.slice none 0 0)
  r1 : w.cell? ⟨W.heap.size + 1, 1, none⟩ = some (.slice none 0 0)
  f0 : w.frozen? ⟨W.heap.size + 1, 0, none⟩ = false
  f1 : w.frozen? ⟨W.heap.size + 1, 1, none⟩ = false
theorem S1.start (W : World) (so : Option Addr) (sn sc : Nat) (co : Option Addr) (cn cc : Nat) : S1 W ((W.alloc (.cells #[.slice so sn sc, .slice co cn cc] 89)).alloc (.cells #[.slice none 0 0, .slice none 0 0] 89)) so sn sc co cn cc := by
  refine ⟨((Below.refl _ _).alloc (Nat.le_refl _) _).alloc (by simp) _, by simp, ?_, ?_, ?_, ?_, ?_, ?_⟩
  · rw [World.cell?_of_block (a := ⟨W.heap.size, 0, none⟩) (RowKit.Below.heap_alloc _ _ _ (by simp))]
    exact (World.cell?_alloc_at _ _ _ _ rfl).trans rfl
  · rw [World.cell?_of_block (a := ⟨W.heap.size, 1, none⟩) (RowKit.Below.heap_alloc _ _ _ (by simp))]
    exact (World.cell?_alloc_at _ _ _ _ rfl).trans rfl
  · exact (World.cell?_alloc_at _ _ _ _ (by simp)).trans rfl
  · exact (World.cell?_alloc_at _ _ _ _ (by simp)).trans rfl
  · exact World.frozen?_alloc_at _ _ _ _ (by simp)
  · exact World.frozen?_alloc_at _ _ _ _ (by simp)
theorem S1.keep {W w w' : World} {so : Option Addr} {sn sc : Nat} {co : Option Addr} {cn cc : Nat} (h : S1 W w so sn sc co cn cc) (hb : Below (W.heap.size + 1 + 1) w w') : S1 W w' so sn sc co cn cc := by
  have l := h.lt
  have hz := hb.size
  refine ⟨h.below.trans (hb.mono (by omega)), by omega, ?_, ?_, ?_, ?_, ?_, ?_⟩
  · exact (hb.cell (p := ⟨W.heap.size, 0, none⟩) (by show W.heap.size < W.heap.size + 1 + 1; omega)).trans h.b0
  · exact (hb.cell (p := ⟨W.heap.size, 1, none⟩) (by show W.heap.size < W.heap.size + 1 + 1; omega)).trans h.b1
  · exact (hb.cell (p := ⟨W.heap.size + 1, 0, none⟩) (by show W.heap.size + 1 < W.heap.size + 1 + 1; omega)).trans h.r0
  · exact (hb.cell (p := ⟨W.heap.size + 1, 1, none⟩) (by show W.heap.size + 1 < W.heap.size + 1 + 1; omega)).trans h.r1
  · exact (hb.frozen (p := ⟨W.heap.size + 1, 0, none⟩) (by show W.heap.size + 1 < W.heap.size + 1 + 1; omega)).trans h.f0
  · exact (hb.frozen (p := ⟨W.heap.size + 1, 1, none⟩) (by show W.heap.size + 1 < W.heap.size + 1 + 1; omega)).trans h.f1
theorem S1.next {W w w' : World} {so : Option Addr} {sn sc : Nat} {co : Option Addr} {cn cc : Nat} (h : S1 W w so sn sc co cn cc) (hb : Below w.heap.size w w') : S1 W w' so sn sc co cn cc := h.keep (hb.mono (by have := h.lt; omega))
theorem S1.own {W A B : World} {row : Option Nat} {n : Nat} {so : Option Addr} {sn sc : Nat} {co : Option Addr} {cn cc : Nat} (h : S1 W A so sn sc co cn cc) (hn : W.heap.size ≤ n) (hg : A.grownBy B row) (hr : ∀ r, row = some r → n ≤ r ∧ ∃ o : Obj, A.heap[r]? = some o ∧ o.isCells = false) : S1 W B so sn sc co cn cc := by
  have hr2 := fun r e => (hr r e).2
  have hl := h.lt
  have hz := hg.size
  exact ⟨h.below.grown hg (by omega) (fun k e => Nat.le_trans hn (hr k e).1), by omega, cell_kept h.b0 hg hr2, cell_kept h.b1 hg hr2, cell_kept h.r0 hg hr2, cell_kept h.r1 hg hr2, (frozen_kept h.r0 hg hr2).trans h.f0, (frozen_kept h.r1 hg hr2).trans h.f1⟩
theorem RowAt.own {A B : World} {row : Option Nat} {n g : Nat} {L : List Int} (h : RowAt A g L) (hg : A.grownBy B row) (hr : ∀ r, row = some r → n ≤ r ∧ ∃ o : Obj, A.heap[r]? = some o ∧ o.isCells = false) : RowAt B g L := fun j hj =>
  ⟨cell_kept (h j hj).1 hg (fun r e => (hr r e).2), (frozen_kept (h j hj).1 hg (fun r e => (hr r e).2)).trans (h j hj).2⟩
theorem KpB.put {bs bn n : Nat} (h1 : bs < n) (h2 : bn < n) (W : World) (l : Nat) (o o' : Obj) (hl : n ≤ l) (ho : W.heap[l]? = some o) : KpB bs bn W (W.putObj l o') := by
  have hlt : l < W.heap.size := (Array.getElem?_eq_some_iff.1 ho).1
  exact ⟨(grownBy_putObj' W l o').block bs (by omega) (fun e => by cases e; omega), (grownBy_putObj' W l o').block bn (by omega) (fun e => by cases e; omega)⟩
theorem chunk_stops0 (n : Nat) (hn : 1 ≤ n) (bs bn b len cap c : Nat) (ao : Option Addr) (hao : 0 < len → ao = some ⟨b, 0, none⟩) (hc : 0 < c) (hcl : c ≤ 1000) (hlen : len ≤ 1000) (hcap : len ≤ cap) (w : World) (hbs : bs < w.heap.size) (hbn : bn < w.heap.size) (h1 : w.cell? ⟨bs, 0, none⟩ = some (.slice ao len cap)) (h2 : w.cell? ⟨bn, 0, none⟩ = some (.int .i64 c)) :
    SeqStopsK Fence.wide n Tryz.prog 274 #[.pointer (some ⟨bs, 0, none⟩), .pointer (some ⟨bn, 0, none⟩)] (fun x : Part len => #[.slice (some ⟨b, x.1.1, none⟩) x.1.2 x.1.2]) (KpB bs bn) (fun ys => ys = partsL len c hc len) (fun _ => True) len w := by
  have := chunk_stops n hn bs bn b 0 len cap c ao hao hc hcl hlen hcap w hbs hbn h1 h2
  simpa using this
section
attribute [local go_sem ↓] Go.wp_at_zero Go.wp_at_succ
set_option maxHeartbeats 1000000 in
theorem round_scalar (W : World) (P : Nat → Prop) (so : Option Addr) (sc : Nat) (co : Option Addr) (cn cc : Nat) (a : Arr) (ha : IsArr P W (.agg #[.slice so 0 sc, .slice co cn cc]) a) :
    Calls Tryz.prog 186 #[.agg #[.slice so 0 sc, .slice co cn cc]] W fun e W' => ∃ so sn sc co cn cc, e = .returned (.tuple #[.agg #[.slice so sn sc, .slice co cn cc], .int .i64 0]) ∧ IsArr P W' (.agg #[.slice so sn sc, .slice co cn cc]) a ∧ Below W.heap.size W W' := by
  have HA := hide ha
  have HS := hide (fun W' => isScalar_any W' so 0 sc co cn cc)
  clear ha
  go_enter Tryz.func186, Tryz.ntmps186
  go_wp2_with (go_at_call 220; refine (unhide HS _).mono ?_; rintro e w' ⟨rfl, rfl⟩)
  refine bodyPost_ret (v := .tuple #[.agg #[.slice so 0 sc, .slice co cn cc], .int .i64 0]) (by simp [results, Tryz.results186, go_sem]) rfl ⟨_, _, _, _, _, _, rfl, ?_, ?_⟩
  · exact (unhide HA).below (((((Below.refl W.heap.size W).alloc (Nat.le_refl _) _).alloc (by simp) _).alloc (by simp; omega) _).alloc (by simp; omega) _)
  · exact ((((Below.refl W.heap.size W).alloc (Nat.le_refl _) _).alloc (by simp) _).alloc (by simp; omega) _).alloc (by simp; omega) _
end
set_option maxRecDepth 100000 in
set_option maxHeartbeats 2000000 in
theorem round_fn (w : World) : FnOne 186 #[] w revP := by
  intro W P v a _ hP ha hoa
  have ha0 := ha
  obtain ⟨so, sn, sc, co, cn, cc, rfl, ha1, ha2⟩ := ha
  have hsn := (isArr_len ha0).2
  have hcn := (isArr_len ha0).1
  by_cases h0 : sn = 0
  · have hr : revP a = (a, 0) := by unfold revP; rw [if_pos (by omega)]
    rw [hr]
    subst h0
    exact round_scalar W P so sc co cn cc a ha0
  · have hr : revP a = (⟨a.shape, revC a.cells (lastN a.shape)⟩, 0) := by unfold revP; rw [if_neg (by omega)]
    rw [hr]
    have hds := last_split (l := a.shape) (by omega)
    obtain ⟨la, hla⟩ : ∃ la, lastN a.shape = la := ⟨_, rfl⟩
    rw [hla] at hds ⊢
    have hla2 : la ≤ 200 := hoa.lens la (by rw [hds]; simp)
    have hdl : a.shape.dropLast.length ≤ 3 := by have := hoa.rank; simp; omega
    obtain ⟨xs, hxs⟩ : ∃ xs, a.cells = xs := ⟨_, rfl⟩
    rw [hxs] at ha2 hcn ⊢
    have hfew : xs.length ≤ 200 := by rw [← hxs]; exact hoa.few
    have h0' : ((sn : Int) == 0) = false := by rw [beq_eq_false_iff_ne]; omega
    have HScal : Hid (∀ w', Calls Tryz.prog 220 #[.agg #[.slice so sn sc, .slice co cn cc]] w' fun e w'' => e = .returned (.bool ((sn : Int) == 0)) ∧ Below w'.heap.size w' w'') := hide (fun w' => (isScalar_any w' so sn sc co cn cc).mono (fun e w'' h => ⟨h.1, by rw [h.2]; exact ((Below.refl _ _).alloc (Nat.le_refl _) _).alloc (by simp) _⟩))
    have HCl : Hid (∀ w', Below W.heap.size W w' → Calls Tryz.prog 80 #[.slice co cn cc] w' fun e w'' => ∃ ao' g c, e = .returned (.slice ao' cn c) ∧ cn ≤ c ∧ (0 < cn → ao' = some ⟨g, 0, none⟩ ∧ w'.heap.size ≤ g ∧ g < w''.heap.size ∧ RowAt w'' g xs) ∧ (∀ a, ao' = some a → a.spot = none) ∧ Below w'.heap.size w' w'') := hide (fun w' hb => clone_row w' co cn cc xs (ha2.below hb) hfew)
    have HLa : Hid (∀ w', Below W.heap.size W w' → Calls Tryz.prog 234 #[.agg #[.slice so sn sc, .slice co cn cc]] w' fun e w'' => e = .returned (.int .i64 la) ∧ Below w'.heap.size w' w'') := hide (fun w' hb => last_any w' so sn sc co cn cc a (ha0.below hb) a.shape.dropLast la hds hdl)
    have HCh : Hid (∀ w' ao n cap, Calls Tryz.prog 233 #[.slice ao n cap, .int .i64 ((max la 1 : Nat) : Int)] w' fun e w'' => e = .returned (.func (.func 274) #[] #[.pointer (some ⟨w'.heap.size, 0, none⟩), .pointer (some ⟨w'.heap.size + 1, 0, none⟩)]) ∧ w'' = (w'.alloc (.cells #[.slice ao n cap] 32)).alloc (.cells #[.int .i64 ((max la 1 : Nat) : Int)] 3)) := hide (fun w' ao n cap => chunk_call ao n cap (max la 1) (max_pos la) w')
    have hmax : max (la : Int) 1 = ((max la 1 : Nat) : Int) := by omega
    refine (callsIn_wide (n := 5)).1 ?_
    refine callsIn_of_wp_marks Tryz.func186 rfl trivial ?_ rfl
    simp only [Tryz.ntmps186, List.size_toArray, List.length_cons, List.length_nil, Nat.reduceAdd, Nat.reduceSub, Array.replicate_succ, Array.replicate_zero, List.push_toArray, List.append_toArray, List.nil_append, List.cons_append]
    have hS := S1.start W so sn sc co cn cc
    obtain ⟨W1, hW1⟩ : ∃ W1, (W.alloc (.cells #[.slice so sn sc, .slice co cn cc] 89)).alloc (.cells #[.slice none 0 0, .slice none 0 0] 89) = W1 := ⟨_, rfl⟩
    rw [hW1] at hS
    have HS1 := hide hS
    have HN1 := hide ha1
    have HCN := hide hcn
    have x0 := hS.b0
    have x1 := hS.b1
    clear ha0 ha1 ha2 hoa hsn hcn hr hds hla hxs hdl h0 hS
    gi_wp2_with fail
    try rw [hW1]
    clear hW1 x0 x1
    refine ⟨trivial, (callsIn_wide.2 (unhide HScal _)).mono ?_⟩
    rintro e w2 ⟨rfl, hb2⟩
    have hS := (unhide HS1).next hb2
    have HS2 := hide hS
    have x0 := hS.b0
    have x1 := hS.b1
    have n1 := hS.lt
    have n0 : W.heap.size < w2.heap.size := by omega
    clear hS hb2 HS1
    gi_wp2_with fail
    refine ⟨trivial, (callsIn_wide.2 (unhide HCl _ (unhide HS2).below)).mono ?_⟩
    rintro e w3 ⟨ro, g, rc, rfl, hrc, hrow, hrs, hb3⟩
    have hS := (unhide HS2).next hb3
    have HS3 := hide hS
    have n32 := hb3.size
    clear x0 x1 n1 n0
    have x0 := hS.b0
    have x1 := hS.b1
    have n1 := hS.lt
    have n0 : W.heap.size < w3.heap.size := by omega
    have HROW : Hid (0 < cn → ro = some ⟨g, 0, none⟩ ∧ W.heap.size + 1 + 1 ≤ g ∧ g < w3.heap.size ∧ RowAt w3 g xs) := hide (fun h => ⟨(hrow h).1, by have h1 := (unhide HS2).lt; have h2 := (hrow h).2.1; omega, (hrow h).2.2⟩)
    have HRS := hide hrs
    clear hS hb3 hrow hrs HS2
    gi_wp2_with fail
    refine ⟨trivial, (callsIn_wide.2 (unhide HLa _ (unhide HS3).below)).mono ?_⟩
    rintro e w4 ⟨rfl, hb4⟩
    have hS := (unhide HS3).next hb4
    have HS4 := hide hS
    have n43 := hb4.size
    have HROW4 : Hid (0 < cn → ro = some ⟨g, 0, none⟩ ∧ W.heap.size + 1 + 1 ≤ g ∧ g < w4.heap.size ∧ RowAt w4 g xs) := hide (fun h => by
      obtain ⟨h1, h2, h3, h4⟩ := unhide HROW h
      exact ⟨h1, h2, by omega, fun j hj => ⟨(hb4.cell (p := ⟨g, j, none⟩) h3).trans (h4 j hj).1, (hb4.frozen (p := ⟨g, j, none⟩) h3).trans (h4 j hj).2⟩⟩)
    clear x0 x1 n1 n0
    have x0 := hS.b0
    have n1 := hS.lt
    clear hS hb4 HS3 HROW
    gi_wp2_with fail
    refine ⟨trivial, (callsIn_wide.2 (unhide HCh _ ro cn rc)).mono ?_⟩
    rintro e w5 ⟨rfl, hw5⟩
    have hb5 : Below w4.heap.size w4 w5 := by rw [hw5]; exact ((Below.refl _ _).alloc (Nat.le_refl _) _).alloc (by simp) _
    have k1 : w5.cell? ⟨w4.heap.size, 0, none⟩ = some (.slice ro cn rc) := by
      rw [hw5, World.cell?_of_block (a := ⟨w4.heap.size, 0, none⟩) (RowKit.Below.heap_alloc _ _ _ (by simp))]
      exact (World.cell?_alloc_at _ _ _ _ rfl).trans rfl
    have k2 : w5.cell? ⟨w4.heap.size + 1, 0, none⟩ = some (.int .i64 ((max la 1 : Nat) : Int)) := by
      rw [hw5]
      exact (World.cell?_alloc_at _ _ _ _ (by simp)).trans rfl
    have hs5 : w5.heap.size = w4.heap.size + 1 + 1 := by rw [hw5]; simp
    clear hw5
    gi_wp2_with fail
    have hS := (unhide HS4).next hb5
    have hm1000 : max la 1 ≤ 1000 := by omega
    have hcn200 : cn ≤ 1000 := by rw [unhide HCN]; omega
    have hg5 : 0 < cn → RowAt w5 g xs := fun h j hj => by
      obtain ⟨h1, h2, h3, h4⟩ := unhide HROW4 h
      exact ⟨(hb5.cell (p := ⟨g, j, none⟩) h3).trans (h4 j hj).1, (hb5.frozen (p := ⟨g, j, none⟩) h3).trans (h4 j hj).2⟩
    have hlW : W.heap.size ≤ w5.heap.size := by omega
    refine wpIn_rangeFunc_ownF rfl (by omega) (gf := 274) (lb := #[.pointer (some ⟨w4.heap.size, 0, none⟩), .pointer (some ⟨w4.heap.size + 1, 0, none⟩)]) rfl trivial (enters_of Tryz.func274 (by kernel_rfl) rfl)
      (chunk_stops0 4 (by omega) w4.heap.size (w4.heap.size + 1) g cn rc (max la 1) ro (fun h => (unhide HROW4 h).1) (max_pos la) hm1000 hcn200 hrc w5 (by omega) (by omega) k1 k2) KpB.trans (fun W' l o o' hl ho _ _ => KpB.put (n := w5.heap.size) (by omega) (by omega) W' l o o' hl ho) (Below.refl _ _) (fun _ => rfl)
      (fun pre W' => (0 < cn → RowAt W' g (revs pre xs)) ∧ S1 W W' so sn sc co cn cc)
      (fun _ _ _ => False)
      (fun pre X Y row hs hg hr => ⟨fun h => (hs.1 h).own hg hr, hs.2.own hlW hg hr⟩)
      (fun _ _ _ _ _ hs _ _ => hs)
      ⟨hg5, hS⟩
      (fun x => { tmps := #[.agg #[.slice so sn sc, .slice co cn cc], .pointer (some ⟨W.heap.size, 0, none⟩), .pointer (some ⟨W.heap.size + 1, 0, none⟩), .int .i64 0, .slice ro cn rc, .slice (some ⟨g, x.1.1, none⟩) x.1.2 x.1.2, .agg #[.slice so sn sc, .slice co cn cc], .bool false, undef, .pointer (some ⟨W.heap.size, 1, none⟩), .slice co cn cc, .slice ro cn rc, .slice ro cn rc, .agg #[.slice so sn sc, .slice co cn cc], .int .i64 la, .int .i64 ((max la 1 : Nat) : Int), .func (.func 274) #[] #[.pointer (some ⟨w4.heap.size, 0, none⟩), .pointer (some ⟨w4.heap.size + 1, 0, none⟩)], .slice (some ⟨g, x.1.1, none⟩) x.1.2 x.1.2, undef, undef, undef, undef, undef, undef], defers := [] }) ?assign ?body ?done ?stop
    case assign =>
      intro l x W' K hK
      gi_wp2
      exact hK
    case body =>
      rintro l pre x W' ⟨hrow, hS'⟩ _
      have hx := x.2
      have hc0 : 0 < cn := by omega
      have hrl := revs_len pre xs (unhide HCN).symm
      obtain ⟨h1, h2, h3, h4⟩ := unhide HROW4 hc0
      gi_wp2_with fail
      refine ⟨trivial, (CallsIn.inRound l (callsIn_wide.2 (reverse_any W' g (revs pre xs) (hrow hc0) x.1 (by rw [hrl]; exact hx.1) (by omega)))).mono ?_⟩
      rintro e W2 ⟨rfl, hR2, hO2⟩
      gi_wp2
      exact ⟨hO2.others ((hrow hc0) 0 (by omega)).1, ⟨hO2.block _ (by omega), hO2.block _ (by omega)⟩, fun _ => by rw [revs_snoc]; exact hR2, hS'.keep (hO2.below h2)⟩
    case done =>
      rintro D ys W' hD rfl ⟨hrow, hS'⟩ hK
      have y0 := hS'.b0
      have y2 := hS'.r0
      have y3 := hS'.r1
      have z2 := hS'.f0
      have z3 := hS'.f1
      have m1 := hS'.lt
      have m0 : W.heap.size < W'.heap.size := by omega
      clear x0 n1
      gi_wp2
      obtain ⟨W2, hW2⟩ : ∃ W2, (W'.setCell ⟨W.heap.size + 1, 0, none⟩ (.slice so sn sc)).setCell ⟨W.heap.size + 1, 1, none⟩ (.slice ro cn rc) = W2 := ⟨_, rfl⟩
      have hK2 : W2.heap[D]? = some (.deferred (some [])) := by rw [← hW2]; exact ((KeepsOthers.setCell _ _ _).trans (KeepsOthers.setCell _ _ _)).same D _ hK rfl
      have hO2 : OnlyB (W.heap.size + 1) W' W2 := by
        rw [← hW2]
        exact ⟨rfl, rfl, rfl, by simp, fun k hk => (RowKit.Below.heap_setCell _ _ _ _ (fun e => hk e)).trans (RowKit.Below.heap_setCell _ _ _ _ (fun e => hk e))⟩
      have q0 : W2.cell? ⟨W.heap.size + 1, 0, none⟩ = some (.slice so sn sc) := by
        rw [← hW2, World.cell?_setCell_other _ _ _ _ (by simp)]
        exact World.cell?_setCell_same _ _ _ y2
      have q1 : W2.cell? ⟨W.heap.size + 1, 1, none⟩ = some (.slice ro cn rc) := by
        rw [← hW2]
        exact World.cell?_setCell_same _ _ _ (u := .slice none 0 0) ((World.cell?_setCell_other _ _ _ _ (by simp)).trans y3)
      rw [hW2]
      refine ⟨by simp, .inl ⟨_, _, rfl, run_takeDeferred hK2, ?_⟩⟩
      have hput := grownBy_putObj' W2 D (.deferred none)
      have hrr : ∀ r, some D = some r → ∃ o : Obj, W2.heap[r]? = some o ∧ o.isCells = false := fun r e => by cases e; exact ⟨_, hK2, rfl⟩
      have q0' := cell_kept q0 hput hrr
      have q1' := cell_kept q1 hput hrr
      have hput2 : Below W.heap.size W2 (W2.putObj D (.deferred none)) := (Below.refl _ _).grown hput (by rw [hO2.size]; omega) (fun k e => by cases e; omega)
      have hB3 : Below W.heap.size W (W2.putObj D (.deferred none)) := (hS'.below.trans (hO2.below (by omega))).trans hput2
      refine ⟨.tuple #[.agg #[.slice so sn sc, .slice ro cn rc], .int .i64 0], by simp [results, Tryz.results186, go_sem, q0', q1'], so, sn, sc, ro, cn, rc, rfl, ⟨_, _, _, _, _, _, rfl, (unhide HN1).below hB3, ?_⟩, hB3⟩
      have hcn := unhide HCN
      subst hcn
      have hl : (revC xs la).length = xs.length := revs_len _ _ rfl
      by_cases hc0 : 0 < xs.length
      · obtain ⟨h1, h2, h3, h4⟩ := unhide HROW4 hc0
        have hR := hrow hc0
        refine ⟨ro, rc, by rw [hl], by show (revC xs la).length ≤ rc; rw [hl]; exact hrc, fun _ => ⟨g, 0, h1, hP g (by omega), ?_, fun i hi => ?_⟩, unhide HRS⟩
        · have e1 := hput2.size
          have e2 := hO2.size
          have e3 : w5.heap.size ≤ W'.heap.size := by
            have hd := (Array.getElem?_eq_some_iff.1 hK).1
            omega
          omega
        · rw [Nat.zero_add]
          have hi' : i < (revs (partsL xs.length (max la 1) (max_pos la) xs.length) xs).length := hi
          have hc1 := (hR i hi').1
          have hc2 : W2.cell? ⟨g, i, none⟩ = some (.int .i64 ((revs (partsL xs.length (max la 1) (max_pos la) xs.length) xs)[i])) := (World.cell?_of_block (a := ⟨g, i, none⟩) (hO2.block g (by omega))).trans hc1
          exact cell_kept hc2 hput hrr
      · have hz : (revC xs la) = [] := List.eq_nil_of_length_eq_zero (by omega)
        rw [hz]
        refine ⟨ro, rc, by rw [show xs.length = 0 by omega]; rfl, by simp, fun h => absurd h (by simp), unhide HRS⟩
    case stop =>
      rintro D c pre W' _ _ h _
      exact h.elim
theorem revAt_mem {L : List Int} {p : Nat × Nat} {c : Int} (h : c ∈ revAt L p) : c ∈ L := by
  unfold revAt at h
  rcases List.mem_append.1 h with h | h
  · exact List.mem_of_mem_take h
  · rcases List.mem_append.1 h with h | h
    · exact List.mem_of_mem_drop (List.mem_of_mem_take (List.mem_reverse.1 h))
    · exact List.mem_of_mem_drop h
theorem revs_mem {n : Nat} : ∀ (pre : List (Part n)) (L : List Int) (c : Int), c ∈ revs pre L → c ∈ L
  | [], _, _, h => h
  | p :: pre, L, c, h => revAt_mem (revs_mem pre (revAt L p.1) c h)
theorem round_one : OneC ⟨#[114, 101, 118]⟩ revP := ⟨fun w => (find_one (t := ⟨#[114, 101, 118]⟩) (k1 := .string [101, 118]) (k2 := .string [114, 101, 118]) (f := 186) (by decide) (by kernel_rfl) (by kernel_rfl) (by kernel_rfl) (by kernel_rfl) w).mono (by rintro e w' ⟨rfl, hb⟩; exact ⟨186, #[], rfl, Tryz.enters186, hb, round_fn w'⟩), fun a ha => by
  unfold revP
  split
  · exact ⟨ha.few, fun _ => ha⟩
  · have hl : (revC a.cells (lastN a.shape)).length = a.cells.length := revs_len _ _ rfl
    exact ⟨by show (revC _ _).length ≤ 200; rw [hl]; exact ha.few, fun _ => ⟨ha.rank, ha.lens, by show (revC _ _).length = _; rw [hl]; exact ha.size, by show (revC _ _).length ≤ 200; rw [hl]; exact ha.few, fun c hc => ha.fits c (revs_mem _ _ c hc)⟩⟩⟩
end Go.Proofs.YtjobgpahajhbnaaGreatDoor
namespace Go.Proofs.YtjobgpahajhbnaaGreatDoor
open Go.RowKit Go.Proofs Go.Shelf
attribute [local go_sem] Oper.semAt_some

/-- the boxes of a function of two arrays, and its answer -/
structure S2 (W w : World) (co : Option Addr) (cn cc : Nat) (so2 : Option Addr) (sn2 sc2 : Nat) : Prop where
  below : Below W.heap.size W w
  lt : W.heap.size + 1 + 1 < w.heap.size
  a1 : w.cell? ⟨W.heap.size, 1, none⟩ = some (.slice co cn cc)
  b0 : w.cell? ⟨W.heap.size + 1, 0, none⟩ = some (.slice so2 sn2 sc2)
  r0 : w.cell? ⟨W.heap.size + 1 + 1, 0, none⟩ = some (.slice none 0 0)
  r1 : w.cell? ⟨W.heap.size + 1 + 1, 1, none⟩ = some (.slice none 0 0)
  f0 : w.frozen? ⟨W.heap.size + 1 + 1, 0, none⟩ = false
  f1 : w.frozen? ⟨W.heap.size + 1 + 1, 1, none⟩ = false
end Go.Proofs.YtjobgpahajhbnaaGreatDoor
namespace Go.Proofs.YtjobgpahajhbnaaGreatDoor
open Go.RowKit Go.Proofs
attribute [local go_sem ↓] Go.wp_at_zero Go.wp_at_succ

/-- what a text comes to, wherever it stands -/
structure ArrX (f1 : ByteArray → Arr → Arr × Int) (f2 : ByteArray → Arr → Arr → Arr × Int) (env : ByteArray → Option Arr) (X : Ex) (a : Arr) (b : Nat) : Prop where
  good : Good f1 f2 X
  ev : ∀ c, c + b ≤ 700 → ∃ c', c' ≤ c + b ∧ evalE env 1000 f1 f2 X c = .inr (a, c')
/-- a line, said of its bytes -/
def ArrSays (env : ByteArray → Option Arr) (b : ByteArray) (a : Arr) : Prop := ∃ cost, ∀ S db N, Says (DkE S db env N) db b 0 0 (a.shape.map Int.ofNat) a.cells cost
section
variable {f1 : ByteArray → Arr → Arr × Int} {f2 : ByteArray → Arr → Arr → Arr × Int} {env : ByteArray → Option Arr}
theorem row_says {b : ByteArray} {cs : List Int} (h : ArrSays env b (rowA cs)) {S : Nat → Prop} {db N : Nat} {w : World} (hD : DkE S db env N w) {Q : Nat → Prop} {v : Value} (hn : Nums Q w v cs) (hl : cs.length ≤ 200) :
    Calls Tryz.prog 19 #[.pointer (some ⟨db, 0, none⟩), .string b, v] w fun e w' => e = .returned (.bool true) ∧ Below w.heap.size w w' := by
  obtain ⟨cost, h⟩ := h
  have hn0 := hn
  obtain ⟨ko, kc, rfl, _⟩ := hn0
  exact isRow_gen (DkE S db env N) (DkE.lasts S db env N) db b cs cost (h S db N) w hD ko _ kc hn hl
set_option maxHeartbeats 1000000 in
set_option maxRecDepth 20000 in
/-- two lines that come to the same, neither of which makes a name -/
theorem like_says {s t : ByteArray} {a : Arr} (hs : ArrSays env s a) (ht : ArrSays env t a) {S : Nat → Prop} {db N : Nat} {w : World} (hD : DkE S db env N w) (hl1 : a.shape.length ≤ 3) (hl2 : a.cells.length ≤ 200) :
    Calls Tryz.prog 24 #[.pointer (some ⟨db, 0, none⟩), .string s, .string t] w fun e w' => e = .returned (.bool true) ∧ Below w.heap.size w w' := by
  obtain ⟨cost, ht⟩ := ht
  obtain ⟨cost', hs⟩ := hs
  have hl3 : (a.shape.map Int.ofNat).length ≤ 200 := by simp; omega
  obtain ⟨sh, hsh⟩ : ∃ sh, a.shape.map Int.ofNat = sh := ⟨_, rfl⟩
  rw [hsh] at hs ht hl3
  obtain ⟨cs, hcs⟩ : ∃ cs, a.cells = cs := ⟨_, rfl⟩
  rw [hcs] at hs ht hl2
  have HO := hide (one_gen (DkE S db env N) (DkE.lasts S db env N) db _ _ cs cost (ht S db N) w hD)
  have HI : Hid (∀ w2 so sn sc co cn cc, Below w.heap.size w w2 → Nums (fun b => w.heap.size < b) w2 (.slice so sn sc) sh → Nums (fun b => w.heap.size < b) w2 (.slice co cn cc) cs → Calls Tryz.prog 28 #[.pointer (some ⟨db, 0, none⟩), .string s, .slice so sn sc, .slice co cn cc] w2 fun e w' => e = .returned (.bool true) ∧ Below w2.heap.size w2 w') := hide (by
    intro w2 so sn sc co cn cc hb hsh hcs
    exact is_gen (DkE S db env N) (DkE.lasts S db env N) db _ _ cs cost' (hs S db N) w2 (hD.below hb) so sn sc co cn cc hsh hcs hl3 hl2)
  clear hs ht hD hsh hcs
  go_enter Tryz.func24, Tryz.ntmps24
  go_wp2_with (go_at_call 29; refine (unhide HO).mono ?_; rintro e w1 ⟨so, sn, sc, co, cn, cc, rfl, h1, h2, hb⟩; have H1 := hide h1; have H2 := hide h2; have HB := hide hb; clear h1 h2 hb)
  have hbw : Below w1.heap.size w1 (w1.alloc (.cells #[.int .i64 0, .int .i64 0, .slice so sn sc, .slice co cn cc, .int .i64 cost] 47)) := (Below.refl _ _).alloc (Nat.le_refl _) _
  have HBW := hide (below2' (unhide HB) hbw)
  refine (unhide HI _ so sn sc co cn cc (below2' (unhide HB) hbw) ((unhide H1).below hbw) ((unhide H2).below hbw)).mono ?_
  rintro e w3 ⟨rfl, hb3⟩
  have HB3 := hide (below2' (unhide HBW) hb3)
  clear hb3 hbw
  go_wp2_with fail
  exact bodyPost_ret (v := .bool true) (by simp [results, Tryz.results24, go_sem]) rfl ⟨rfl, unhide HB3⟩
end
theorem fn1_form (c d : UInt8) (hc : c ≠ 32) (ht : tailU c = false) (hl : ∀ r, tl ([c, d] ++ (32 :: r)) = some 2) (hk : kindT ⟨[c, d].toArray⟩ = 3) (hr : roleB (roleT ⟨[c, d].toArray⟩) 1 = true) : Fn1 [c, d] := ⟨⟨c, [d], rfl, hc, ht⟩, hl, hk, hr⟩
theorem fn1_sum : Fn1 [43, 47] := fn1_form _ _ (by decide) (by decide) (fun _ => rfl) (by decide +kernel) (by decide +kernel)
theorem tl_round (r : List UInt8) : tl ([114, 101, 118] ++ (32 :: r)) = some 3 := by
  have h : ([114, 101, 118] ++ (32 :: r)).takeWhile lU = [114, 101, 118] := rfl
  have hf : isFn [114, 101, 118] = true := by decide +kernel
  show wrdE ([114, 101, 118] ++ (32 :: r)) = some 3
  unfold wrdE
  rw [h]
  simp [hf]
theorem fn1_round : Fn1 [114, 101, 118] := ⟨⟨114, [101, 118], rfl, by decide, by decide⟩, tl_round, by decide +kernel, by decide +kernel⟩
section
variable {env : ByteArray → Option Arr} {l : List Int}
end
end Go.Proofs.YtjobgpahajhbnaaGreatDoor
namespace Go.Proofs.YtjobgpahajhbnaaGreatDoor
open Go.RowKit Go.Proofs Go.Maps
attribute [local go_sem ↓] Go.wp_at_zero Go.wp_at_succ

theorem Tryz.enters184 : Enters Tryz.prog 184 := Go.Proofs.enters_of Tryz.func184 (by decide) rfl
def lengthsP (a : Arr) : Arr × Int := (⟨[(a.shape.map Int.ofNat).length], a.shape.map Int.ofNat⟩, 0)
set_option maxHeartbeats 2000000 in
set_option maxRecDepth 20000 in
theorem lengths_fn (w : World) : FnOne 184 #[] w lengthsP := by
  intro W P v a _ hP ha hoa
  have ha0 := ha
  obtain ⟨so, sn, sc, co, cn, cc, rfl, ha1, _⟩ := ha
  have hsn := (isArr_len ha0).2
  show Calls Tryz.prog 184 #[.agg #[.slice so sn sc, .slice co cn cc]] W _
  have hst : Bx W ((W.alloc (.cells #[.slice so sn sc, .slice co cn cc] 89)).alloc (.cells #[.slice none 0 0, .slice none 0 0] 89)) [[.slice so sn sc, .slice co cn cc], [.slice none 0 0, .slice none 0 0]] := ((Bx.nil W).alloc (by simp) [.slice so sn sc, .slice co cn cc] 89).alloc (by simp) [.slice none 0 0, .slice none 0 0] 89
  have HN := hide (ha1.below hst.below)
  have HST := hide hst
  have HP := hide hP
  have h4 : a.shape.length ≤ 4 := by have := hoa.rank; omega
  have hlen : (a.shape.map Int.ofNat).length = sn := by rw [hsn]; simp
  obtain ⟨xs, hxs⟩ : ∃ xs, a.shape.map Int.ofNat = xs := ⟨_, rfl⟩
  rw [hxs] at HN hlen
  have hsn4 : sn ≤ 4 := by omega
  have HR : Hid (lengthsP a = (⟨[xs.length], xs⟩, 0)) := hide (by unfold lengthsP; rw [hxs])
  have HL := hide hlen
  clear ha0 ha1 hst hP hoa hsn h4 hxs hlen
  go_enter Tryz.func184, Tryz.ntmps184
  go_wp2_with fail
  obtain ⟨wS, hwS⟩ : ∃ wS, (W.alloc (.cells #[.slice so sn sc, .slice co cn cc] 89)).alloc (.cells #[.slice none 0 0, .slice none 0 0] 89) = wS := ⟨_, rfl⟩
  rw [hwS] at HST HN ⊢
  clear hwS
  go_loopw [4, 10] (fun v4 v10 wr => ∃ i : Nat, v10 = .int .i64 i ∧ i ≤ sn ∧ OwnL wS.heap.size wr v4 (xs.take i) ∧ Below wS.heap.size wS wr) (fun _ v10 _ => sn - (intOf v10).toNat)
  case atStart => exact ⟨0, rfl, by omega, by simpa using OwnL.nil _ _, Below.refl _ _⟩
  case round =>
    obtain ⟨i, rfl, hi, ho, hb⟩ := hrel
    have HO := hide ho
    have HB := hide hb
    by_cases hin : i < sn
    · have hil : i < xs.length := by rw [unhide HL]; exact hin
      obtain ⟨-, -, hA⟩ := nums_at (unhide HN)
      obtain ⟨sb, sf, rfl, hsb, hc⟩ := hA (by omega)
      have c0 := (hb.cell (p := ⟨sb, sf + i, none⟩) hsb).trans (hc i hil)
      obtain ⟨x, hx⟩ : ∃ x, xs[i] = x := ⟨_, rfl⟩
      rw [hx] at c0
      have HT : Hid (xs.take (i + 1) = xs.take i ++ [x]) := hide (by rw [← hx, List.take_succ_eq_append_getElem hil])
      have i0 : (0 : Int) ≤ (i : Int) := by omega
      have i1 : (i : Int) < (sn : Int) := by omega
      have hk : (xs.take i).length ≤ 10 := by simp; omega
      have HK := hide hk
      clear ho hb hA hc hx hk
      go_wp2_with (at_builtin; refine wpList_app1 rfl _ _ rfl (unhide HO) (by have := unhide HK; omega) (unhide HB).size x rfl rfl ?_)
      intro v' w4 ho4 hg4
      have HO4 := hide ho4
      have HB4 := hide ((unhide HB).trans (hg4.bel.mono (Nat.le_refl _)))
      clear ho4 hg4
      go_wp2_with fail
      go_roundw
      case rel => exact ⟨i + 1, by go_num, by omega, by rw [unhide HT]; exact unhide HO4, unhide HB4⟩
      case measure => simp [intOf]; omega
    · have hie : i = sn := by omega
      have hT : xs.take i = xs := List.take_of_length_le (by rw [unhide HL]; omega)
      rw [hT] at ho HO
      have i1 : ¬ (i : Int) < (sn : Int) := by omega
      obtain ⟨vo, vc, rfl⟩ := ho.shape
      rename World => wr
      have HX := hide ((unhide HST).next hb)
      have hlt := (unhide HST).lt
      simp at hlt
      have HRow := hide (row_any (OffB W.heap.size 2 P) wr (fun b h => OffB.new (unhide HP) (by have := hb.size; omega)) (.slice vo xs.length vc) xs (ho.nums.imp (fun b h _ => OffB.new (unhide HP) (by omega))))
      clear ho hb hT hie hlt
      go_wp2_with fail
      refine (unhide HRow).mono ?_
      rintro e w2 ⟨s1, s2, s3, c1, c2, c3, rfl, hA2, hb2⟩
      have HX2 := hide ((unhide HX).next hb2)
      have HA2 := hide hA2
      clear hA2 hb2 HX HRow
      have r0 : w2.cell? ⟨W.heap.size + 1, 0, none⟩ = some (.slice none 0 0) := ((unhide HX2).cell 1 0 _ rfl).1
      have r1 : w2.cell? ⟨W.heap.size + 1, 1, none⟩ = some (.slice none 0 0) := ((unhide HX2).cell 1 1 _ rfl).1
      have g0 : w2.frozen? ⟨W.heap.size + 1, 0, none⟩ = false := ((unhide HX2).cell 1 0 _ rfl).2
      have g1 : w2.frozen? ⟨W.heap.size + 1, 1, none⟩ = false := ((unhide HX2).cell 1 1 _ rfl).2
      go_wp2_with fail
      have hf2 := fin_bx (q := 1) (u0 := .slice s1 s2 s3) (u1 := .slice c1 c2 c3) (unhide HX2).below (by decide) (unhide HA2)
      exact bodyPost_ret (v := .tuple #[.agg #[.slice s1 s2 s3, .slice c1 c2 c3], .int .i64 0]) (by simp [results, Tryz.results184, go_sem, r0, r1]) rfl ⟨_, _, _, _, _, _, by rw [unhide HR], by rw [unhide HR]; exact hf2.1, hf2.2⟩
theorem lengths_one : OneC ⟨#[114, 104, 111]⟩ lengthsP := ⟨fun w => (find_one (t := ⟨#[114, 104, 111]⟩) (k1 := .string [104, 111]) (k2 := .string [114, 104, 111]) (f := 184) (by decide) (by kernel_rfl) (by kernel_rfl) (by kernel_rfl) (by kernel_rfl) w).mono (by rintro e w' ⟨rfl, hb⟩; exact ⟨184, #[], rfl, Tryz.enters184, hb, lengths_fn w'⟩), fun a ha => by
  have := ha.rank
  exact ⟨by simp [lengthsP]; omega, fun _ => ⟨by simp [lengthsP], by simp [lengthsP]; omega, by simp [lengthsP, prodL], by simp [lengthsP]; omega, fun c hc => by
    simp only [lengthsP, List.mem_map] at hc
    obtain ⟨n, hn, rfl⟩ := hc
    have := ha.lens n hn
    unfold fit64
    constructor <;> simp <;> omega⟩⟩⟩
end Go.Proofs.YtjobgpahajhbnaaGreatDoor
