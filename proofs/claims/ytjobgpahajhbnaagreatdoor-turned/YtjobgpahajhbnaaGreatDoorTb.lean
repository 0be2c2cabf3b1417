import Derived.Test.YtjobgpahajhbnaaGreatDoorRa
import Derived.Test.YtjobgpahajhbnaaGreatDoorTa
import Derived.Laws.EntriesVeiled
import Derived.Test.YtjobgpahajhbnaaGreatDoorRi
namespace Go.Proofs.YtjobgpahajhbnaaGreatDoor
open Go.RowKit Go.Proofs
attribute [local go_sem ↓] Go.wp_at_zero Go.wp_at_succ

theorem fit_wrap (n : Int) : fit64 (wrap64 n) := by unfold fit64 wrap64; omega
def plusF (x y : Int) : Int × Int := (wrap64 (x + y), 0)
def minusF (x y : Int) : Int × Int := (wrap64 (x - y), 0)
def timesF (x y : Int) : Int × Int := (wrap64 (x * y), 0)
def overF (x y : Int) : Int × Int := if y = 0 then (0, 7) else if x.tmod y ≠ 0 ∧ decide (x < 0) ≠ decide (y < 0) then (wrap64 (wrap64 (x.tdiv y) - 1), 0) else (wrap64 (x.tdiv y), 0)
def restF (x y : Int) : Int × Int := if x = 0 then (y, 0) else (wrap64 (y - wrap64 (x * (overF y x).1)), (overF y x).2)
def lesserF (x y : Int) : Int × Int := (min x y, 0)
def greaterF (x y : Int) : Int × Int := (max x y, 0)
def sameF (x y : Int) : Int × Int := (if x = y then 1 else 0, 0)
def belowF (x y : Int) : Int × Int := (if x < y then 1 else 0, 0)
set_option maxHeartbeats 400000 in
theorem oneIf_any (h : Bool) (r : Int) (hr : (if h then 1 else 0) = r) (w : World) : Calls Tryz.prog 259 #[.bool h] w fun e w' => e = .returned (.int .i64 r) ∧ w' = w := by
  subst hr
  cases h <;> (go_enter Tryz.func259, Tryz.ntmps259; go_wp2; go_ret; exact ⟨rfl, rfl⟩)

theorem Tryz.enters241 : Enters Tryz.prog 241 := Go.Proofs.enters_of Tryz.func241 (by decide) rfl
set_option maxHeartbeats 400000 in
theorem plus_rule : RuleC 241 plusF where
  enters := Tryz.enters241
  call := by
    intro x y w _ _
    unfold plusF
    go_enter Tryz.func241, Tryz.ntmps241
    go_wp2
    refine bodyPost_ret (v := .tuple #[.int .i64 (wrap64 (x + y)), .int .i64 0]) (by simp [results, Tryz.results241, go_sem]) rfl ⟨rfl, rfl⟩
  fits := by
    intro x y hx hy
    unfold plusF
    first | exact fit_wrap _ | (unfold fit64 at *; simp only []; omega)

theorem Tryz.enters242 : Enters Tryz.prog 242 := Go.Proofs.enters_of Tryz.func242 (by decide) rfl
set_option maxHeartbeats 400000 in
theorem minus_rule : RuleC 242 minusF where
  enters := Tryz.enters242
  call := by
    intro x y w _ _
    unfold minusF
    go_enter Tryz.func242, Tryz.ntmps242
    go_wp2
    refine bodyPost_ret (v := .tuple #[.int .i64 (wrap64 (x - y)), .int .i64 0]) (by simp [results, Tryz.results242, go_sem]) rfl ⟨rfl, rfl⟩
  fits := by
    intro x y hx hy
    unfold minusF
    first | exact fit_wrap _ | (unfold fit64 at *; simp only []; omega)

theorem Tryz.enters243 : Enters Tryz.prog 243 := Go.Proofs.enters_of Tryz.func243 (by decide) rfl
set_option maxHeartbeats 400000 in
theorem times_rule : RuleC 243 timesF where
  enters := Tryz.enters243
  call := by
    intro x y w _ _
    unfold timesF
    go_enter Tryz.func243, Tryz.ntmps243
    go_wp2
    refine bodyPost_ret (v := .tuple #[.int .i64 (wrap64 (x * y)), .int .i64 0]) (by simp [results, Tryz.results243, go_sem]) rfl ⟨rfl, rfl⟩
  fits := by
    intro x y hx hy
    unfold timesF
    first | exact fit_wrap _ | (unfold fit64 at *; simp only []; omega)

theorem Tryz.enters246 : Enters Tryz.prog 246 := Go.Proofs.enters_of Tryz.func246 (by decide) rfl
set_option maxHeartbeats 400000 in
theorem lesser_rule : RuleC 246 lesserF where
  enters := Tryz.enters246
  call := by
    intro x y w _ _
    unfold lesserF
    go_enter Tryz.func246, Tryz.ntmps246
    go_wp2
    refine bodyPost_ret (v := .tuple #[.int .i64 (min x y), .int .i64 0]) (by simp [results, Tryz.results246, go_sem]) rfl ⟨rfl, rfl⟩
  fits := by
    intro x y hx hy
    unfold lesserF
    first | exact fit_wrap _ | (unfold fit64 at *; simp only []; omega)

theorem Tryz.enters247 : Enters Tryz.prog 247 := Go.Proofs.enters_of Tryz.func247 (by decide) rfl
set_option maxHeartbeats 400000 in
theorem greater_rule : RuleC 247 greaterF where
  enters := Tryz.enters247
  call := by
    intro x y w _ _
    unfold greaterF
    go_enter Tryz.func247, Tryz.ntmps247
    go_wp2
    refine bodyPost_ret (v := .tuple #[.int .i64 (max x y), .int .i64 0]) (by simp [results, Tryz.results247, go_sem]) rfl ⟨rfl, rfl⟩
  fits := by
    intro x y hx hy
    unfold greaterF
    first | exact fit_wrap _ | (unfold fit64 at *; simp only []; omega)

theorem Tryz.enters248 : Enters Tryz.prog 248 := Go.Proofs.enters_of Tryz.func248 (by decide) rfl
set_option maxHeartbeats 400000 in
theorem same_rule : RuleC 248 sameF where
  enters := Tryz.enters248
  call := by
    intro x y w _ _
    unfold sameF
    obtain ⟨r, hr⟩ : ∃ r : Int, (if x = y then (1 : Int) else 0) = r := ⟨_, rfl⟩
    simp only [hr]
    have HR := hide hr
    clear hr
    go_enter Tryz.func248, Tryz.ntmps248
    go_wp2_with (go_at_call 259; refine (oneIf_any _ r (by simpa using unhide HR) _).mono ?_; rintro e w' ⟨rfl, rfl⟩)
    refine bodyPost_ret (v := .tuple #[.int .i64 r, .int .i64 0]) (by simp [results, Tryz.results248, go_sem]) rfl ⟨rfl, rfl⟩
  fits := by
    intro x y hx hy
    unfold sameF fit64
    simp only []
    split <;> omega

theorem Tryz.enters249 : Enters Tryz.prog 249 := Go.Proofs.enters_of Tryz.func249 (by decide) rfl
set_option maxHeartbeats 400000 in
theorem below_rule : RuleC 249 belowF where
  enters := Tryz.enters249
  call := by
    intro x y w _ _
    unfold belowF
    obtain ⟨r, hr⟩ : ∃ r : Int, (if x < y then (1 : Int) else 0) = r := ⟨_, rfl⟩
    simp only [hr]
    have HR := hide hr
    clear hr
    go_enter Tryz.func249, Tryz.ntmps249
    go_wp2_with (go_at_call 259; refine (oneIf_any _ r (by simpa using unhide HR) _).mono ?_; rintro e w' ⟨rfl, rfl⟩)
    refine bodyPost_ret (v := .tuple #[.int .i64 r, .int .i64 0]) (by simp [results, Tryz.results249, go_sem]) rfl ⟨rfl, rfl⟩
  fits := by
    intro x y hx hy
    unfold belowF fit64
    simp only []
    split <;> omega

theorem Tryz.enters244 : Enters Tryz.prog 244 := Go.Proofs.enters_of Tryz.func244 (by decide) rfl
theorem Tryz.enters245 : Enters Tryz.prog 245 := Go.Proofs.enters_of Tryz.func245 (by decide) rfl
set_option maxHeartbeats 400000 in
theorem over_any (x y : Int) (w : World) : Calls Tryz.prog 244 #[.int .i64 x, .int .i64 y] w fun e w' => e = .returned (.tuple #[.int .i64 (overF x y).1, .int .i64 (overF x y).2]) ∧ w' = w := by
  obtain ⟨u, hu⟩ : ∃ u, overF x y = u := ⟨_, rfl⟩
  rw [hu]
  unfold overF at hu
  have HU := hide hu
  clear hu
  by_cases hy : y = 0
  · have hy' : (y == 0) = true := by simp [hy]
    go_enter Tryz.func244, Tryz.ntmps244
    go_wp2
    exact bodyPost_ret (v := .tuple #[.int .i64 0, .int .i64 7]) (by simp [results, Tryz.results244, go_sem]) rfl ⟨by rw [← unhide HU, if_pos hy], rfl⟩
  · have hy' : (y == 0) = false := by simp [hy]
    go_enter Tryz.func244, Tryz.ntmps244
    go_wp2
    · rename_i h
      exact bodyPost_ret (v := .tuple #[.int .i64 (wrap64 (x.tdiv y)), .int .i64 0]) (by simp [results, Tryz.results244, go_sem]) rfl ⟨by rw [← unhide HU, if_neg hy, if_neg (by rintro ⟨h1, h2⟩; exact h1 h)], rfl⟩
    · rename_i h
      exact bodyPost_ret (v := .tuple #[.int .i64 (wrap64 (wrap64 (x.tdiv y) - 1)), .int .i64 0]) (by simp [results, Tryz.results244, go_sem]) rfl ⟨by rw [← unhide HU, if_neg hy, if_pos ⟨by simpa using h.1, by simpa using h.2⟩], rfl⟩
    · rename_i h
      exact bodyPost_ret (v := .tuple #[.int .i64 (wrap64 (x.tdiv y)), .int .i64 0]) (by simp [results, Tryz.results244, go_sem]) rfl ⟨by rw [← unhide HU, if_neg hy, if_neg (by rintro ⟨h1, h2⟩; rcases h with h | h <;> simp_all)], rfl⟩
theorem over_rule : RuleC 244 overF where
  enters := Tryz.enters244
  call := fun x y w _ _ => over_any x y w
  fits := by
    intro x y hx hy
    unfold overF
    split
    · unfold fit64; simp only []; omega
    · split <;> exact fit_wrap _
set_option maxHeartbeats 400000 in
theorem rest_any (x y : Int) (w : World) : Calls Tryz.prog 245 #[.int .i64 x, .int .i64 y] w fun e w' => e = .returned (.tuple #[.int .i64 (restF x y).1, .int .i64 (restF x y).2]) ∧ w' = w := by
  unfold restF
  by_cases hy : x = 0
  · have hy' : (x == 0) = true := by simp [hy]
    rw [if_pos hy]
    go_enter Tryz.func245, Tryz.ntmps245
    go_wp2
    exact bodyPost_ret (v := .tuple #[.int .i64 y, .int .i64 0]) (by simp [results, Tryz.results245, go_sem]) rfl ⟨rfl, rfl⟩
  · have hy' : (x == 0) = false := by simp [hy]
    rw [if_neg hy]
    go_enter Tryz.func245, Tryz.ntmps245
    go_wp2_with (go_at_call 244; refine (over_any y x _).mono ?_; rintro e w' ⟨rfl, rfl⟩)
    exact bodyPost_ret (v := .tuple #[.int .i64 (wrap64 (y - wrap64 (x * (overF y x).1))), .int .i64 (overF y x).2]) (by simp [results, Tryz.results245, go_sem]) rfl ⟨rfl, rfl⟩
theorem rest_rule : RuleC 245 restF where
  enters := Tryz.enters245
  call := fun x y w _ _ => rest_any x y w
  fits := by
    intro x y hx hy
    unfold restF
    split
    · exact hy
    · exact fit_wrap _
end Go.Proofs.YtjobgpahajhbnaaGreatDoor
namespace Go.Proofs.YtjobgpahajhbnaaGreatDoor
open Go.RowKit Go.Proofs Go.Maps
attribute [local go_sem ↓] Go.wp_at_zero Go.wp_at_succ

def zSign : Value := .agg #[.nilFunc, .int .i64 0]
def heldOf : DataW Value → Value
  | .held v => v
  | _ => undef
theorem look_self {D : DataW Value} {n : Nat} {w : World} {b : Nat} {m e : TypeId} {zv : Value} (hm : Tryz.prog.underlying m = some (.map 9 e)) (hz : (zeroValue e).run Tryz.prog w = .ok zv w) (h : w.ownsMap Tryz.prog 9 selfE b n D) {t : ByteArray} {kl : Lit} {ok : Bool} {v : Value} (hk : keyOf Tryz.prog 9 (.string t) = some kl) (hh : Maps.has D kl = ok) (hat : D.atKey kl (.held zv) = .held v) :
    (Instr.lookup m (.map (some b)) (.string t) true).run Tryz.prog w = .ok (.tuple #[v, .bool ok]) w := by
  obtain ⟨u, ps, h1, h2⟩ := h.look_ok Tryz.law9 hm hz (show selfE zv = some (.held zv, []) from rfl) hk
  rw [hh] at h1
  rw [hat] at h2
  have h3 : DataW.held u = DataW.held v := congrArg Prod.fst (Option.some.inj h2)
  have h4 : u = v := congrArg heldOf h3
  rw [h1, h4]
set_option maxHeartbeats 1000000 in
theorem find_sign {t : ByteArray} {kl : Lit} {f : Nat} {z : Int} (hk : keyOf Tryz.prog 9 (.string t) = some kl) (hh : Maps.has signsD kl = true) (hat : signsD.atKey kl (.held zSign) = .held (.agg #[.func (.func f) #[] #[], .int .i64 z])) (w : World) :
    Calls Tryz.prog 111 #[.string t] w fun e w' => e = .returned (.func (.func f) #[] #[]) ∧ Below w.heap.size w w' := by
  have HL : Hid (∀ w' b, w'.ownsMap Tryz.prog 9 selfE b 9 signsD → (Instr.lookup 242 (.map (some b)) (.string t) true).run Tryz.prog w' = .ok (.tuple #[.agg #[.func (.func f) #[] #[], .int .i64 z], .bool true]) w') := hide (fun w' b h => look_self Tryz.underlying242 (Tryz.zero241 w') h hk hh hat)
  clear hk hh hat
  go_enter Tryz.func111, Tryz.ntmps111
  go_wp2_with (go_at_call 154; refine (signs_any _).mono ?_; rintro e w1 ⟨rfl, ho, hb⟩; have hl := unhide HL _ _ ho; have HB := hide hb; clear ho hb)
  exact bodyPost_ret (v := .func (.func f) #[] #[]) (by simp [results, Tryz.results111, go_sem]) rfl ⟨rfl, (unhide HB).alloc (unhide HB).size _⟩
end Go.Proofs.YtjobgpahajhbnaaGreatDoor
namespace Go.Proofs.YtjobgpahajhbnaaGreatDoor
open Go.RowKit Go.Proofs Go.Maps
attribute [local go_sem ↓] Go.wp_at_zero Go.wp_at_succ

theorem pair_any (f : Int → Int → Int × Int) (g : Nat) (hrule : RuleC g f) (P : Nat → Prop) (w : World) (hP : ∀ b, w.heap.size ≤ b → P b) (u v : Value) (a b : Arr) (ha : IsArr P w u a) (hb : IsArr P w v b) (hoa : a.ok) (hob : b.ok) :
    Calls Tryz.prog 240 #[u, v, .func (.func g) #[] #[]] w fun e w' => ∃ s1 s2 s3 c1 c2 c3, e = .returned (.tuple #[.agg #[.slice s1 s2 s3, .slice c1 c2 c3], .int .i64 (pairP f a b).2]) ∧ IsArr P w' (.agg #[.slice s1 s2 s3, .slice c1 c2 c3]) (pairP f a b).1 ∧ Below w.heap.size w w' := by
  obtain ⟨so, sn, sc, co, cn, cc, rfl, ha1, ha2⟩ := ha
  obtain ⟨so2, sn2, sc2, co2, cn2, cc2, rfl, hb1, hb2⟩ := hb
  have ha : IsArr P w (.agg #[.slice so sn sc, .slice co cn cc]) a := ⟨_, _, _, _, _, _, rfl, ha1, ha2⟩
  have hb : IsArr P w (.agg #[.slice so2 sn2 sc2, .slice co2 cn2 cc2]) b := ⟨_, _, _, _, _, _, rfl, hb1, hb2⟩
  by_cases h1 : sn = 0
  · subst h1
    exact pair_left f g hrule P w hP so sc co cn cc so2 sn2 sc2 co2 cn2 cc2 a b ha hb hoa hob
  · have h1' : ((sn : Int) == 0) = false := by simpa using h1
    by_cases h2 : sn2 = 0
    · subst h2
      exact pair_right f g hrule P w hP so sn sc co cn cc so2 sc2 co2 cn2 cc2 a b ha hb h1' hoa hob
    · have h2' : ((sn2 : Int) == 0) = false := by simpa using h2
      by_cases h3 : sn = sn2
      · have h3' : ((sn : Int) != (sn2 : Int)) = false := by subst h3; simp
        by_cases h4 : a.shape = b.shape
        · exact pair_same f g hrule P w hP so sn sc co cn cc so2 sn2 sc2 co2 cn2 cc2 a b ha hb h1' h2' hoa hob h3' h4
        · exact pair_lens f g P w so sn sc co cn cc so2 sn2 sc2 co2 cn2 cc2 a b ha hb h1' h2' hoa hob h3' h4
      · have h3' : ((sn : Int) != (sn2 : Int)) = true := bne_iff_ne.2 (fun h => h3 (Int.ofNat_inj.1 h))
        exact pair_ranks f g P w so sn sc co cn cc so2 sn2 sc2 co2 cn2 cc2 a b ha hb h1' h2' h3'
theorem zip_fits {f : Int → Int → Int × Int} (hf : ∀ x y, fit64 x → fit64 y → fit64 (f x y).1) : ∀ {xs ys l : List Int}, zipF f xs ys = .inr l → (∀ c ∈ xs, fit64 c) → (∀ c ∈ ys, fit64 c) → ∀ c ∈ l, fit64 c
  | [], _, l, h, _, _ => by simp [zipF] at h; subst h; intro c hc; cases hc
  | x :: xs, [], l, h, _, _ => by simp [zipF] at h; subst h; intro c hc; cases hc
  | x :: xs, y :: ys, l, h, hx, hy => by
    unfold zipF at h
    split at h
    · cases h
    · cases hz : zipF f xs ys with
      | inl e => rw [hz] at h; cases h
      | inr m =>
        rw [hz] at h
        cases h
        intro c hc
        rcases List.mem_cons.1 hc with rfl | hc
        · exact hf _ _ (hx _ (by simp)) (hy _ (by simp))
        · exact zip_fits hf hz (fun c h => hx c (by simp [h])) (fun c h => hy c (by simp [h])) c hc
theorem zip_err {f : Int → Int → Int × Int} : ∀ {xs ys : List Int} {e : Int}, zipF f xs ys = .inl e → e ≠ 0
  | [], _, e, h => by simp [zipF] at h
  | x :: xs, [], e, h => by simp [zipF] at h
  | x :: xs, y :: ys, e, h => by
    unfold zipF at h
    split at h
    · rename_i h0
      cases h
      exact h0
    · cases hz : zipF f xs ys with
      | inl e' => rw [hz] at h; cases h; exact zip_err hz
      | inr m => rw [hz] at h; cases h
theorem zipA_good {f : Int → Int → Int × Int} (hf : ∀ x y, fit64 x → fit64 y → fit64 (f x y).1) {a : Arr} (ha : a.ok) {xs ys : List Int} (hx : xs.length = a.cells.length) (hy : ys.length = a.cells.length) (fx : ∀ c ∈ xs, fit64 c) (fy : ∀ c ∈ ys, fit64 c) :
    (zipA f a.shape xs ys).1.cells.length ≤ 200 ∧ ((zipA f a.shape xs ys).2 = 0 → (zipA f a.shape xs ys).1.ok) := by
  unfold zipA
  cases hz : zipF f xs ys with
  | inl e => exact ⟨by simp [eArr], fun h => absurd h (zip_err hz)⟩
  | inr l =>
    have hl := zip_len hz (by omega)
    have h2 := ha.few
    exact ⟨by simp only []; omega, fun _ => ⟨ha.rank, ha.lens, by rw [hl, hx]; exact ha.size, by simp only []; omega, zip_fits hf hz fx fy⟩⟩
theorem pairP_ok {f : Int → Int → Int × Int} (hf : ∀ x y, fit64 x → fit64 y → fit64 (f x y).1) {a b : Arr} (ha : a.ok) (hb : b.ok) : (pairP f a b).1.cells.length ≤ 200 ∧ ((pairP f a b).2 = 0 → (pairP f a b).1.ok) := by
  have head : ∀ {a : Arr}, a.ok → fit64 (a.cells.headD 0) := by
    intro a h
    cases hc : a.cells with
    | nil => unfold fit64; simp
    | cons x r => exact h.fits x (by rw [hc]; simp)
  unfold pairP
  split
  · exact zipA_good hf hb (by simp) rfl (fun c hc => by rw [(List.mem_replicate.1 hc).2]; exact head ha) hb.fits
  · split
    · exact zipA_good hf ha rfl (by simp) ha.fits (fun c hc => by rw [(List.mem_replicate.1 hc).2]; exact head hb)
    · split
      · exact ⟨by simp [eArr], fun h => absurd h (by decide)⟩
      · split
        · exact ⟨by simp [eArr], fun h => absurd h (by decide)⟩
        · rename_i hs
          have hs' : a.shape = b.shape := by simpa using hs
          exact zipA_good hf ha rfl (by rw [ha.size, hb.size, hs']) ha.fits hb.fits


theorem Tryz.enters190 : Enters Tryz.prog 190 := Go.Proofs.enters_of Tryz.func190 (by decide) rfl
set_option maxHeartbeats 400000 in
theorem plus_fn (w : World) : FnTwo 190 #[] w (pairP plusF) := by
  intro W P u v a b _ hP ha hb hoa hob
  have HC := hide (fun W' (h : Below W.heap.size W W') (hs : W.heap.size + 2 < W'.heap.size) => pair_any plusF 241 plus_rule (fun b => P b ∧ b ≠ W.heap.size + 2) W' (fun b h' => ⟨hP b (by omega), by omega⟩) u v a b ((ha.imp (fun b hp hl => ⟨hp, by omega⟩)).below h) ((hb.imp (fun b hp hl => ⟨hp, by omega⟩)).below h) hoa hob)
  obtain ⟨so, sn, sc, co, cn, cc, rfl, ha1, ha2⟩ := ha
  obtain ⟨so2, sn2, sc2, co2, cn2, cc2, rfl, hb1, hb2⟩ := hb
  clear hP hoa hob ha1 ha2 hb1 hb2
  obtain ⟨r, hr⟩ : ∃ r, pairP plusF a b = r := ⟨_, rfl⟩
  rw [hr] at HC ⊢
  clear hr
  go_enter Tryz.func190, Tryz.ntmps190
  go_wp2_with (go_at_call 240; refine (unhide HC _ ((((Below.refl W.heap.size W).alloc (Nat.le_refl _) _).alloc (by simp) _).alloc (by simp <;> omega) _) (by simp)).mono ?_; rintro e w1 ⟨s1, s2, s3, c1, c2, c3, rfl, h1, hb1⟩; have HA := hide h1; have HB := hide hb1; obtain ⟨hc, hf⟩ := bcell hb1; have d0 := ((hc (W.heap.size + 1 + 1) 0 (by simp)).trans (World.cell?_alloc_at _ _ _ _ (by simp))).trans rfl; have d1 := ((hc (W.heap.size + 1 + 1) 1 (by simp)).trans (World.cell?_alloc_at _ _ _ _ (by simp))).trans rfl; have g0 := (hf (W.heap.size + 1 + 1) 0 (by simp)).trans (World.frozen?_alloc_at _ _ _ _ (by simp)); have g1 := (hf (W.heap.size + 1 + 1) 1 (by simp)).trans (World.frozen?_alloc_at _ _ _ _ (by simp)); clear h1 hb1 hc hf)
  refine bodyPost_ret (v := .tuple #[.agg #[.slice s1 s2 s3, .slice c1 c2 c3], .int .i64 r.2]) (by simp [results, Tryz.results190, go_sem, d0, d1]) rfl ⟨_, _, _, _, _, _, rfl, ?_, ?_⟩
  · exact (((unhide HA).set (fun h => h.2 rfl) 0 _).set (fun h => h.2 rfl) 1 _).imp (fun b h _ => h.1)
  · exact (((((Below.refl W.heap.size W).alloc (Nat.le_refl _) _).alloc (by simp) _).alloc (by simp <;> omega) _).trans ((unhide HB).mono (by simp <;> omega))).setCell (p := ⟨W.heap.size + 1 + 1, 0, none⟩) (by show W.heap.size ≤ W.heap.size + 1 + 1; omega) _ |>.setCell (p := ⟨W.heap.size + 1 + 1, 1, none⟩) (by show W.heap.size ≤ W.heap.size + 1 + 1; omega) _
theorem plus_two : TwoC ⟨#[43]⟩ (pairP plusF) := ⟨fun w => (find_sign (t := ⟨#[43]⟩) (kl := .string [43]) (f := 190) (z := 0) (by kernel_rfl) (by kernel_rfl) (by kernel_rfl) w).mono (by rintro e w' ⟨rfl, hb⟩; exact ⟨190, #[], rfl, Tryz.enters190, hb, plus_fn w'⟩), fun a b ha hb => pairP_ok plus_rule.fits ha hb⟩

theorem Tryz.enters191 : Enters Tryz.prog 191 := Go.Proofs.enters_of Tryz.func191 (by decide) rfl
set_option maxHeartbeats 400000 in
theorem minus_fn (w : World) : FnTwo 191 #[] w (pairP minusF) := by
  intro W P u v a b _ hP ha hb hoa hob
  have HC := hide (fun W' (h : Below W.heap.size W W') (hs : W.heap.size + 2 < W'.heap.size) => pair_any minusF 242 minus_rule (fun b => P b ∧ b ≠ W.heap.size + 2) W' (fun b h' => ⟨hP b (by omega), by omega⟩) u v a b ((ha.imp (fun b hp hl => ⟨hp, by omega⟩)).below h) ((hb.imp (fun b hp hl => ⟨hp, by omega⟩)).below h) hoa hob)
  obtain ⟨so, sn, sc, co, cn, cc, rfl, ha1, ha2⟩ := ha
  obtain ⟨so2, sn2, sc2, co2, cn2, cc2, rfl, hb1, hb2⟩ := hb
  clear hP hoa hob ha1 ha2 hb1 hb2
  obtain ⟨r, hr⟩ : ∃ r, pairP minusF a b = r := ⟨_, rfl⟩
  rw [hr] at HC ⊢
  clear hr
  go_enter Tryz.func191, Tryz.ntmps191
  go_wp2_with (go_at_call 240; refine (unhide HC _ ((((Below.refl W.heap.size W).alloc (Nat.le_refl _) _).alloc (by simp) _).alloc (by simp <;> omega) _) (by simp)).mono ?_; rintro e w1 ⟨s1, s2, s3, c1, c2, c3, rfl, h1, hb1⟩; have HA := hide h1; have HB := hide hb1; obtain ⟨hc, hf⟩ := bcell hb1; have d0 := ((hc (W.heap.size + 1 + 1) 0 (by simp)).trans (World.cell?_alloc_at _ _ _ _ (by simp))).trans rfl; have d1 := ((hc (W.heap.size + 1 + 1) 1 (by simp)).trans (World.cell?_alloc_at _ _ _ _ (by simp))).trans rfl; have g0 := (hf (W.heap.size + 1 + 1) 0 (by simp)).trans (World.frozen?_alloc_at _ _ _ _ (by simp)); have g1 := (hf (W.heap.size + 1 + 1) 1 (by simp)).trans (World.frozen?_alloc_at _ _ _ _ (by simp)); clear h1 hb1 hc hf)
  refine bodyPost_ret (v := .tuple #[.agg #[.slice s1 s2 s3, .slice c1 c2 c3], .int .i64 r.2]) (by simp [results, Tryz.results191, go_sem, d0, d1]) rfl ⟨_, _, _, _, _, _, rfl, ?_, ?_⟩
  · exact (((unhide HA).set (fun h => h.2 rfl) 0 _).set (fun h => h.2 rfl) 1 _).imp (fun b h _ => h.1)
  · exact (((((Below.refl W.heap.size W).alloc (Nat.le_refl _) _).alloc (by simp) _).alloc (by simp <;> omega) _).trans ((unhide HB).mono (by simp <;> omega))).setCell (p := ⟨W.heap.size + 1 + 1, 0, none⟩) (by show W.heap.size ≤ W.heap.size + 1 + 1; omega) _ |>.setCell (p := ⟨W.heap.size + 1 + 1, 1, none⟩) (by show W.heap.size ≤ W.heap.size + 1 + 1; omega) _
theorem minus_two : TwoC ⟨#[45]⟩ (pairP minusF) := ⟨fun w => (find_sign (t := ⟨#[45]⟩) (kl := .string [45]) (f := 191) (z := 0) (by kernel_rfl) (by kernel_rfl) (by kernel_rfl) w).mono (by rintro e w' ⟨rfl, hb⟩; exact ⟨191, #[], rfl, Tryz.enters191, hb, minus_fn w'⟩), fun a b ha hb => pairP_ok minus_rule.fits ha hb⟩

theorem Tryz.enters192 : Enters Tryz.prog 192 := Go.Proofs.enters_of Tryz.func192 (by decide) rfl
set_option maxHeartbeats 400000 in
theorem times_fn (w : World) : FnTwo 192 #[] w (pairP timesF) := by
  intro W P u v a b _ hP ha hb hoa hob
  have HC := hide (fun W' (h : Below W.heap.size W W') (hs : W.heap.size + 2 < W'.heap.size) => pair_any timesF 243 times_rule (fun b => P b ∧ b ≠ W.heap.size + 2) W' (fun b h' => ⟨hP b (by omega), by omega⟩) u v a b ((ha.imp (fun b hp hl => ⟨hp, by omega⟩)).below h) ((hb.imp (fun b hp hl => ⟨hp, by omega⟩)).below h) hoa hob)
  obtain ⟨so, sn, sc, co, cn, cc, rfl, ha1, ha2⟩ := ha
  obtain ⟨so2, sn2, sc2, co2, cn2, cc2, rfl, hb1, hb2⟩ := hb
  clear hP hoa hob ha1 ha2 hb1 hb2
  obtain ⟨r, hr⟩ : ∃ r, pairP timesF a b = r := ⟨_, rfl⟩
  rw [hr] at HC ⊢
  clear hr
  go_enter Tryz.func192, Tryz.ntmps192
  go_wp2_with (go_at_call 240; refine (unhide HC _ ((((Below.refl W.heap.size W).alloc (Nat.le_refl _) _).alloc (by simp) _).alloc (by simp <;> omega) _) (by simp)).mono ?_; rintro e w1 ⟨s1, s2, s3, c1, c2, c3, rfl, h1, hb1⟩; have HA := hide h1; have HB := hide hb1; obtain ⟨hc, hf⟩ := bcell hb1; have d0 := ((hc (W.heap.size + 1 + 1) 0 (by simp)).trans (World.cell?_alloc_at _ _ _ _ (by simp))).trans rfl; have d1 := ((hc (W.heap.size + 1 + 1) 1 (by simp)).trans (World.cell?_alloc_at _ _ _ _ (by simp))).trans rfl; have g0 := (hf (W.heap.size + 1 + 1) 0 (by simp)).trans (World.frozen?_alloc_at _ _ _ _ (by simp)); have g1 := (hf (W.heap.size + 1 + 1) 1 (by simp)).trans (World.frozen?_alloc_at _ _ _ _ (by simp)); clear h1 hb1 hc hf)
  refine bodyPost_ret (v := .tuple #[.agg #[.slice s1 s2 s3, .slice c1 c2 c3], .int .i64 r.2]) (by simp [results, Tryz.results192, go_sem, d0, d1]) rfl ⟨_, _, _, _, _, _, rfl, ?_, ?_⟩
  · exact (((unhide HA).set (fun h => h.2 rfl) 0 _).set (fun h => h.2 rfl) 1 _).imp (fun b h _ => h.1)
  · exact (((((Below.refl W.heap.size W).alloc (Nat.le_refl _) _).alloc (by simp) _).alloc (by simp <;> omega) _).trans ((unhide HB).mono (by simp <;> omega))).setCell (p := ⟨W.heap.size + 1 + 1, 0, none⟩) (by show W.heap.size ≤ W.heap.size + 1 + 1; omega) _ |>.setCell (p := ⟨W.heap.size + 1 + 1, 1, none⟩) (by show W.heap.size ≤ W.heap.size + 1 + 1; omega) _
theorem times_two : TwoC ⟨#[42]⟩ (pairP timesF) := ⟨fun w => (find_sign (t := ⟨#[42]⟩) (kl := .string [42]) (f := 192) (z := 1) (by kernel_rfl) (by kernel_rfl) (by kernel_rfl) w).mono (by rintro e w' ⟨rfl, hb⟩; exact ⟨192, #[], rfl, Tryz.enters192, hb, times_fn w'⟩), fun a b ha hb => pairP_ok times_rule.fits ha hb⟩

theorem Tryz.enters193 : Enters Tryz.prog 193 := Go.Proofs.enters_of Tryz.func193 (by decide) rfl
set_option maxHeartbeats 400000 in
theorem over_fn (w : World) : FnTwo 193 #[] w (pairP overF) := by
  intro W P u v a b _ hP ha hb hoa hob
  have HC := hide (fun W' (h : Below W.heap.size W W') (hs : W.heap.size + 2 < W'.heap.size) => pair_any overF 244 over_rule (fun b => P b ∧ b ≠ W.heap.size + 2) W' (fun b h' => ⟨hP b (by omega), by omega⟩) u v a b ((ha.imp (fun b hp hl => ⟨hp, by omega⟩)).below h) ((hb.imp (fun b hp hl => ⟨hp, by omega⟩)).below h) hoa hob)
  obtain ⟨so, sn, sc, co, cn, cc, rfl, ha1, ha2⟩ := ha
  obtain ⟨so2, sn2, sc2, co2, cn2, cc2, rfl, hb1, hb2⟩ := hb
  clear hP hoa hob ha1 ha2 hb1 hb2
  obtain ⟨r, hr⟩ : ∃ r, pairP overF a b = r := ⟨_, rfl⟩
  rw [hr] at HC ⊢
  clear hr
  go_enter Tryz.func193, Tryz.ntmps193
  go_wp2_with (go_at_call 240; refine (unhide HC _ ((((Below.refl W.heap.size W).alloc (Nat.le_refl _) _).alloc (by simp) _).alloc (by simp <;> omega) _) (by simp)).mono ?_; rintro e w1 ⟨s1, s2, s3, c1, c2, c3, rfl, h1, hb1⟩; have HA := hide h1; have HB := hide hb1; obtain ⟨hc, hf⟩ := bcell hb1; have d0 := ((hc (W.heap.size + 1 + 1) 0 (by simp)).trans (World.cell?_alloc_at _ _ _ _ (by simp))).trans rfl; have d1 := ((hc (W.heap.size + 1 + 1) 1 (by simp)).trans (World.cell?_alloc_at _ _ _ _ (by simp))).trans rfl; have g0 := (hf (W.heap.size + 1 + 1) 0 (by simp)).trans (World.frozen?_alloc_at _ _ _ _ (by simp)); have g1 := (hf (W.heap.size + 1 + 1) 1 (by simp)).trans (World.frozen?_alloc_at _ _ _ _ (by simp)); clear h1 hb1 hc hf)
  refine bodyPost_ret (v := .tuple #[.agg #[.slice s1 s2 s3, .slice c1 c2 c3], .int .i64 r.2]) (by simp [results, Tryz.results193, go_sem, d0, d1]) rfl ⟨_, _, _, _, _, _, rfl, ?_, ?_⟩
  · exact (((unhide HA).set (fun h => h.2 rfl) 0 _).set (fun h => h.2 rfl) 1 _).imp (fun b h _ => h.1)
  · exact (((((Below.refl W.heap.size W).alloc (Nat.le_refl _) _).alloc (by simp) _).alloc (by simp <;> omega) _).trans ((unhide HB).mono (by simp <;> omega))).setCell (p := ⟨W.heap.size + 1 + 1, 0, none⟩) (by show W.heap.size ≤ W.heap.size + 1 + 1; omega) _ |>.setCell (p := ⟨W.heap.size + 1 + 1, 1, none⟩) (by show W.heap.size ≤ W.heap.size + 1 + 1; omega) _
theorem over_two : TwoC ⟨#[37]⟩ (pairP overF) := ⟨fun w => (find_sign (t := ⟨#[37]⟩) (kl := .string [37]) (f := 193) (z := 1) (by kernel_rfl) (by kernel_rfl) (by kernel_rfl) w).mono (by rintro e w' ⟨rfl, hb⟩; exact ⟨193, #[], rfl, Tryz.enters193, hb, over_fn w'⟩), fun a b ha hb => pairP_ok over_rule.fits ha hb⟩

theorem Tryz.enters194 : Enters Tryz.prog 194 := Go.Proofs.enters_of Tryz.func194 (by decide) rfl
set_option maxHeartbeats 400000 in
theorem rest_fn (w : World) : FnTwo 194 #[] w (pairP restF) := by
  intro W P u v a b _ hP ha hb hoa hob
  have HC := hide (fun W' (h : Below W.heap.size W W') (hs : W.heap.size + 2 < W'.heap.size) => pair_any restF 245 rest_rule (fun b => P b ∧ b ≠ W.heap.size + 2) W' (fun b h' => ⟨hP b (by omega), by omega⟩) u v a b ((ha.imp (fun b hp hl => ⟨hp, by omega⟩)).below h) ((hb.imp (fun b hp hl => ⟨hp, by omega⟩)).below h) hoa hob)
  obtain ⟨so, sn, sc, co, cn, cc, rfl, ha1, ha2⟩ := ha
  obtain ⟨so2, sn2, sc2, co2, cn2, cc2, rfl, hb1, hb2⟩ := hb
  clear hP hoa hob ha1 ha2 hb1 hb2
  obtain ⟨r, hr⟩ : ∃ r, pairP restF a b = r := ⟨_, rfl⟩
  rw [hr] at HC ⊢
  clear hr
  go_enter Tryz.func194, Tryz.ntmps194
  go_wp2_with (go_at_call 240; refine (unhide HC _ ((((Below.refl W.heap.size W).alloc (Nat.le_refl _) _).alloc (by simp) _).alloc (by simp <;> omega) _) (by simp)).mono ?_; rintro e w1 ⟨s1, s2, s3, c1, c2, c3, rfl, h1, hb1⟩; have HA := hide h1; have HB := hide hb1; obtain ⟨hc, hf⟩ := bcell hb1; have d0 := ((hc (W.heap.size + 1 + 1) 0 (by simp)).trans (World.cell?_alloc_at _ _ _ _ (by simp))).trans rfl; have d1 := ((hc (W.heap.size + 1 + 1) 1 (by simp)).trans (World.cell?_alloc_at _ _ _ _ (by simp))).trans rfl; have g0 := (hf (W.heap.size + 1 + 1) 0 (by simp)).trans (World.frozen?_alloc_at _ _ _ _ (by simp)); have g1 := (hf (W.heap.size + 1 + 1) 1 (by simp)).trans (World.frozen?_alloc_at _ _ _ _ (by simp)); clear h1 hb1 hc hf)
  refine bodyPost_ret (v := .tuple #[.agg #[.slice s1 s2 s3, .slice c1 c2 c3], .int .i64 r.2]) (by simp [results, Tryz.results194, go_sem, d0, d1]) rfl ⟨_, _, _, _, _, _, rfl, ?_, ?_⟩
  · exact (((unhide HA).set (fun h => h.2 rfl) 0 _).set (fun h => h.2 rfl) 1 _).imp (fun b h _ => h.1)
  · exact (((((Below.refl W.heap.size W).alloc (Nat.le_refl _) _).alloc (by simp) _).alloc (by simp <;> omega) _).trans ((unhide HB).mono (by simp <;> omega))).setCell (p := ⟨W.heap.size + 1 + 1, 0, none⟩) (by show W.heap.size ≤ W.heap.size + 1 + 1; omega) _ |>.setCell (p := ⟨W.heap.size + 1 + 1, 1, none⟩) (by show W.heap.size ≤ W.heap.size + 1 + 1; omega) _
theorem rest_two : TwoC ⟨#[124]⟩ (pairP restF) := ⟨fun w => (find_sign (t := ⟨#[124]⟩) (kl := .string [124]) (f := 194) (z := 0) (by kernel_rfl) (by kernel_rfl) (by kernel_rfl) w).mono (by rintro e w' ⟨rfl, hb⟩; exact ⟨194, #[], rfl, Tryz.enters194, hb, rest_fn w'⟩), fun a b ha hb => pairP_ok rest_rule.fits ha hb⟩

theorem Tryz.enters195 : Enters Tryz.prog 195 := Go.Proofs.enters_of Tryz.func195 (by decide) rfl
set_option maxHeartbeats 400000 in
theorem lesser_fn (w : World) : FnTwo 195 #[] w (pairP lesserF) := by
  intro W P u v a b _ hP ha hb hoa hob
  have HC := hide (fun W' (h : Below W.heap.size W W') (hs : W.heap.size + 2 < W'.heap.size) => pair_any lesserF 246 lesser_rule (fun b => P b ∧ b ≠ W.heap.size + 2) W' (fun b h' => ⟨hP b (by omega), by omega⟩) u v a b ((ha.imp (fun b hp hl => ⟨hp, by omega⟩)).below h) ((hb.imp (fun b hp hl => ⟨hp, by omega⟩)).below h) hoa hob)
  obtain ⟨so, sn, sc, co, cn, cc, rfl, ha1, ha2⟩ := ha
  obtain ⟨so2, sn2, sc2, co2, cn2, cc2, rfl, hb1, hb2⟩ := hb
  clear hP hoa hob ha1 ha2 hb1 hb2
  obtain ⟨r, hr⟩ : ∃ r, pairP lesserF a b = r := ⟨_, rfl⟩
  rw [hr] at HC ⊢
  clear hr
  go_enter Tryz.func195, Tryz.ntmps195
  go_wp2_with (go_at_call 240; refine (unhide HC _ ((((Below.refl W.heap.size W).alloc (Nat.le_refl _) _).alloc (by simp) _).alloc (by simp <;> omega) _) (by simp)).mono ?_; rintro e w1 ⟨s1, s2, s3, c1, c2, c3, rfl, h1, hb1⟩; have HA := hide h1; have HB := hide hb1; obtain ⟨hc, hf⟩ := bcell hb1; have d0 := ((hc (W.heap.size + 1 + 1) 0 (by simp)).trans (World.cell?_alloc_at _ _ _ _ (by simp))).trans rfl; have d1 := ((hc (W.heap.size + 1 + 1) 1 (by simp)).trans (World.cell?_alloc_at _ _ _ _ (by simp))).trans rfl; have g0 := (hf (W.heap.size + 1 + 1) 0 (by simp)).trans (World.frozen?_alloc_at _ _ _ _ (by simp)); have g1 := (hf (W.heap.size + 1 + 1) 1 (by simp)).trans (World.frozen?_alloc_at _ _ _ _ (by simp)); clear h1 hb1 hc hf)
  refine bodyPost_ret (v := .tuple #[.agg #[.slice s1 s2 s3, .slice c1 c2 c3], .int .i64 r.2]) (by simp [results, Tryz.results195, go_sem, d0, d1]) rfl ⟨_, _, _, _, _, _, rfl, ?_, ?_⟩
  · exact (((unhide HA).set (fun h => h.2 rfl) 0 _).set (fun h => h.2 rfl) 1 _).imp (fun b h _ => h.1)
  · exact (((((Below.refl W.heap.size W).alloc (Nat.le_refl _) _).alloc (by simp) _).alloc (by simp <;> omega) _).trans ((unhide HB).mono (by simp <;> omega))).setCell (p := ⟨W.heap.size + 1 + 1, 0, none⟩) (by show W.heap.size ≤ W.heap.size + 1 + 1; omega) _ |>.setCell (p := ⟨W.heap.size + 1 + 1, 1, none⟩) (by show W.heap.size ≤ W.heap.size + 1 + 1; omega) _
theorem lesser_two : TwoC ⟨#[38]⟩ (pairP lesserF) := ⟨fun w => (find_sign (t := ⟨#[38]⟩) (kl := .string [38]) (f := 195) (z := 9223372036854775807) (by kernel_rfl) (by kernel_rfl) (by kernel_rfl) w).mono (by rintro e w' ⟨rfl, hb⟩; exact ⟨195, #[], rfl, Tryz.enters195, hb, lesser_fn w'⟩), fun a b ha hb => pairP_ok lesser_rule.fits ha hb⟩

theorem Tryz.enters196 : Enters Tryz.prog 196 := Go.Proofs.enters_of Tryz.func196 (by decide) rfl
set_option maxHeartbeats 400000 in
theorem greater_fn (w : World) : FnTwo 196 #[] w (pairP greaterF) := by
  intro W P u v a b _ hP ha hb hoa hob
  have HC := hide (fun W' (h : Below W.heap.size W W') (hs : W.heap.size + 2 < W'.heap.size) => pair_any greaterF 247 greater_rule (fun b => P b ∧ b ≠ W.heap.size + 2) W' (fun b h' => ⟨hP b (by omega), by omega⟩) u v a b ((ha.imp (fun b hp hl => ⟨hp, by omega⟩)).below h) ((hb.imp (fun b hp hl => ⟨hp, by omega⟩)).below h) hoa hob)
  obtain ⟨so, sn, sc, co, cn, cc, rfl, ha1, ha2⟩ := ha
  obtain ⟨so2, sn2, sc2, co2, cn2, cc2, rfl, hb1, hb2⟩ := hb
  clear hP hoa hob ha1 ha2 hb1 hb2
  obtain ⟨r, hr⟩ : ∃ r, pairP greaterF a b = r := ⟨_, rfl⟩
  rw [hr] at HC ⊢
  clear hr
  go_enter Tryz.func196, Tryz.ntmps196
  go_wp2_with (go_at_call 240; refine (unhide HC _ ((((Below.refl W.heap.size W).alloc (Nat.le_refl _) _).alloc (by simp) _).alloc (by simp <;> omega) _) (by simp)).mono ?_; rintro e w1 ⟨s1, s2, s3, c1, c2, c3, rfl, h1, hb1⟩; have HA := hide h1; have HB := hide hb1; obtain ⟨hc, hf⟩ := bcell hb1; have d0 := ((hc (W.heap.size + 1 + 1) 0 (by simp)).trans (World.cell?_alloc_at _ _ _ _ (by simp))).trans rfl; have d1 := ((hc (W.heap.size + 1 + 1) 1 (by simp)).trans (World.cell?_alloc_at _ _ _ _ (by simp))).trans rfl; have g0 := (hf (W.heap.size + 1 + 1) 0 (by simp)).trans (World.frozen?_alloc_at _ _ _ _ (by simp)); have g1 := (hf (W.heap.size + 1 + 1) 1 (by simp)).trans (World.frozen?_alloc_at _ _ _ _ (by simp)); clear h1 hb1 hc hf)
  refine bodyPost_ret (v := .tuple #[.agg #[.slice s1 s2 s3, .slice c1 c2 c3], .int .i64 r.2]) (by simp [results, Tryz.results196, go_sem, d0, d1]) rfl ⟨_, _, _, _, _, _, rfl, ?_, ?_⟩
  · exact (((unhide HA).set (fun h => h.2 rfl) 0 _).set (fun h => h.2 rfl) 1 _).imp (fun b h _ => h.1)
  · exact (((((Below.refl W.heap.size W).alloc (Nat.le_refl _) _).alloc (by simp) _).alloc (by simp <;> omega) _).trans ((unhide HB).mono (by simp <;> omega))).setCell (p := ⟨W.heap.size + 1 + 1, 0, none⟩) (by show W.heap.size ≤ W.heap.size + 1 + 1; omega) _ |>.setCell (p := ⟨W.heap.size + 1 + 1, 1, none⟩) (by show W.heap.size ≤ W.heap.size + 1 + 1; omega) _
theorem greater_two : TwoC ⟨#[33]⟩ (pairP greaterF) := ⟨fun w => (find_sign (t := ⟨#[33]⟩) (kl := .string [33]) (f := 196) (z := -9223372036854775808) (by kernel_rfl) (by kernel_rfl) (by kernel_rfl) w).mono (by rintro e w' ⟨rfl, hb⟩; exact ⟨196, #[], rfl, Tryz.enters196, hb, greater_fn w'⟩), fun a b ha hb => pairP_ok greater_rule.fits ha hb⟩

theorem Tryz.enters197 : Enters Tryz.prog 197 := Go.Proofs.enters_of Tryz.func197 (by decide) rfl
set_option maxHeartbeats 400000 in
theorem same_fn (w : World) : FnTwo 197 #[] w (pairP sameF) := by
  intro W P u v a b _ hP ha hb hoa hob
  have HC := hide (fun W' (h : Below W.heap.size W W') (hs : W.heap.size + 2 < W'.heap.size) => pair_any sameF 248 same_rule (fun b => P b ∧ b ≠ W.heap.size + 2) W' (fun b h' => ⟨hP b (by omega), by omega⟩) u v a b ((ha.imp (fun b hp hl => ⟨hp, by omega⟩)).below h) ((hb.imp (fun b hp hl => ⟨hp, by omega⟩)).below h) hoa hob)
  obtain ⟨so, sn, sc, co, cn, cc, rfl, ha1, ha2⟩ := ha
  obtain ⟨so2, sn2, sc2, co2, cn2, cc2, rfl, hb1, hb2⟩ := hb
  clear hP hoa hob ha1 ha2 hb1 hb2
  obtain ⟨r, hr⟩ : ∃ r, pairP sameF a b = r := ⟨_, rfl⟩
  rw [hr] at HC ⊢
  clear hr
  go_enter Tryz.func197, Tryz.ntmps197
  go_wp2_with (go_at_call 240; refine (unhide HC _ ((((Below.refl W.heap.size W).alloc (Nat.le_refl _) _).alloc (by simp) _).alloc (by simp <;> omega) _) (by simp)).mono ?_; rintro e w1 ⟨s1, s2, s3, c1, c2, c3, rfl, h1, hb1⟩; have HA := hide h1; have HB := hide hb1; obtain ⟨hc, hf⟩ := bcell hb1; have d0 := ((hc (W.heap.size + 1 + 1) 0 (by simp)).trans (World.cell?_alloc_at _ _ _ _ (by simp))).trans rfl; have d1 := ((hc (W.heap.size + 1 + 1) 1 (by simp)).trans (World.cell?_alloc_at _ _ _ _ (by simp))).trans rfl; have g0 := (hf (W.heap.size + 1 + 1) 0 (by simp)).trans (World.frozen?_alloc_at _ _ _ _ (by simp)); have g1 := (hf (W.heap.size + 1 + 1) 1 (by simp)).trans (World.frozen?_alloc_at _ _ _ _ (by simp)); clear h1 hb1 hc hf)
  refine bodyPost_ret (v := .tuple #[.agg #[.slice s1 s2 s3, .slice c1 c2 c3], .int .i64 r.2]) (by simp [results, Tryz.results197, go_sem, d0, d1]) rfl ⟨_, _, _, _, _, _, rfl, ?_, ?_⟩
  · exact (((unhide HA).set (fun h => h.2 rfl) 0 _).set (fun h => h.2 rfl) 1 _).imp (fun b h _ => h.1)
  · exact (((((Below.refl W.heap.size W).alloc (Nat.le_refl _) _).alloc (by simp) _).alloc (by simp <;> omega) _).trans ((unhide HB).mono (by simp <;> omega))).setCell (p := ⟨W.heap.size + 1 + 1, 0, none⟩) (by show W.heap.size ≤ W.heap.size + 1 + 1; omega) _ |>.setCell (p := ⟨W.heap.size + 1 + 1, 1, none⟩) (by show W.heap.size ≤ W.heap.size + 1 + 1; omega) _
theorem same_two : TwoC ⟨#[61]⟩ (pairP sameF) := ⟨fun w => (find_sign (t := ⟨#[61]⟩) (kl := .string [61]) (f := 197) (z := 1) (by kernel_rfl) (by kernel_rfl) (by kernel_rfl) w).mono (by rintro e w' ⟨rfl, hb⟩; exact ⟨197, #[], rfl, Tryz.enters197, hb, same_fn w'⟩), fun a b ha hb => pairP_ok same_rule.fits ha hb⟩

theorem Tryz.enters198 : Enters Tryz.prog 198 := Go.Proofs.enters_of Tryz.func198 (by decide) rfl
set_option maxHeartbeats 400000 in
theorem below_fn (w : World) : FnTwo 198 #[] w (pairP belowF) := by
  intro W P u v a b _ hP ha hb hoa hob
  have HC := hide (fun W' (h : Below W.heap.size W W') (hs : W.heap.size + 2 < W'.heap.size) => pair_any belowF 249 below_rule (fun b => P b ∧ b ≠ W.heap.size + 2) W' (fun b h' => ⟨hP b (by omega), by omega⟩) u v a b ((ha.imp (fun b hp hl => ⟨hp, by omega⟩)).below h) ((hb.imp (fun b hp hl => ⟨hp, by omega⟩)).below h) hoa hob)
  obtain ⟨so, sn, sc, co, cn, cc, rfl, ha1, ha2⟩ := ha
  obtain ⟨so2, sn2, sc2, co2, cn2, cc2, rfl, hb1, hb2⟩ := hb
  clear hP hoa hob ha1 ha2 hb1 hb2
  obtain ⟨r, hr⟩ : ∃ r, pairP belowF a b = r := ⟨_, rfl⟩
  rw [hr] at HC ⊢
  clear hr
  go_enter Tryz.func198, Tryz.ntmps198
  go_wp2_with (go_at_call 240; refine (unhide HC _ ((((Below.refl W.heap.size W).alloc (Nat.le_refl _) _).alloc (by simp) _).alloc (by simp <;> omega) _) (by simp)).mono ?_; rintro e w1 ⟨s1, s2, s3, c1, c2, c3, rfl, h1, hb1⟩; have HA := hide h1; have HB := hide hb1; obtain ⟨hc, hf⟩ := bcell hb1; have d0 := ((hc (W.heap.size + 1 + 1) 0 (by simp)).trans (World.cell?_alloc_at _ _ _ _ (by simp))).trans rfl; have d1 := ((hc (W.heap.size + 1 + 1) 1 (by simp)).trans (World.cell?_alloc_at _ _ _ _ (by simp))).trans rfl; have g0 := (hf (W.heap.size + 1 + 1) 0 (by simp)).trans (World.frozen?_alloc_at _ _ _ _ (by simp)); have g1 := (hf (W.heap.size + 1 + 1) 1 (by simp)).trans (World.frozen?_alloc_at _ _ _ _ (by simp)); clear h1 hb1 hc hf)
  refine bodyPost_ret (v := .tuple #[.agg #[.slice s1 s2 s3, .slice c1 c2 c3], .int .i64 r.2]) (by simp [results, Tryz.results198, go_sem, d0, d1]) rfl ⟨_, _, _, _, _, _, rfl, ?_, ?_⟩
  · exact (((unhide HA).set (fun h => h.2 rfl) 0 _).set (fun h => h.2 rfl) 1 _).imp (fun b h _ => h.1)
  · exact (((((Below.refl W.heap.size W).alloc (Nat.le_refl _) _).alloc (by simp) _).alloc (by simp <;> omega) _).trans ((unhide HB).mono (by simp <;> omega))).setCell (p := ⟨W.heap.size + 1 + 1, 0, none⟩) (by show W.heap.size ≤ W.heap.size + 1 + 1; omega) _ |>.setCell (p := ⟨W.heap.size + 1 + 1, 1, none⟩) (by show W.heap.size ≤ W.heap.size + 1 + 1; omega) _
theorem below_two : TwoC ⟨#[60]⟩ (pairP belowF) := ⟨fun w => (find_sign (t := ⟨#[60]⟩) (kl := .string [60]) (f := 198) (z := 0) (by kernel_rfl) (by kernel_rfl) (by kernel_rfl) w).mono (by rintro e w' ⟨rfl, hb⟩; exact ⟨198, #[], rfl, Tryz.enters198, hb, below_fn w'⟩), fun a b ha hb => pairP_ok below_rule.fits ha hb⟩

end Go.Proofs.YtjobgpahajhbnaaGreatDoor
