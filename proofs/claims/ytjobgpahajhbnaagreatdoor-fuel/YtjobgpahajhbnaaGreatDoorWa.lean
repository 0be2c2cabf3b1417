import Derived.Test.YtjobgpahajhbnaaGreatDoorProg
import Derived.WalkKit
import Derived.WalkSpells
import Derived.WalkLawsBesides
import Derived.Shelf.Small.Strs
import Derived.Shelf.Strings.Shaped
import Derived.Shelf.Strings.Prefix
import Derived.Shelf.Strconv.ParseIntPublic10
import Derived.Shelf.Strconv.Itoa4
import Derived.Shelf.Strconv.Clone
import Derived.Shelf.Bits.Mul64
import Derived.Shelf.Slices.Equal
import Derived.Ground.Names2Prog
import Derived.Ground.SlgnProg
import Derived.Shelf.SlicesE.Clone
import Derived.Lib.ParseIntB
import Derived.KernelRfl
namespace Go.Proofs.YtjobgpahajhbnaaGreatDoor
open Go.RowKit

def digB (c : Int) : Bool := decide (48 ≤ c ∧ c ≤ 57)
def letB (c : Int) : Bool := decide (97 ≤ c ∧ c ≤ 122)
def sgnB (c : Int) : Bool := decide (c = 43 ∨ c = 45 ∨ c = 42 ∨ c = 37 ∨ c = 124 ∨ c = 38 ∨ c = 33 ∨ c = 61 ∨ c = 60)
/-- is a text one of these? -/
def amid (L : List ByteArray) (t : ByteArray) : Bool := L.any fun x => x.toList == t.toList
def fnL : List ByteArray := [⟨#[105, 111, 116, 97]⟩, ⟨#[114, 104, 111]⟩, ⟨#[114, 101, 118]⟩, ⟨#[117, 112]⟩, ⟨#[100, 111, 119, 110]⟩, ⟨#[102, 108, 105, 112]⟩, ⟨#[114, 97, 118, 101, 108]⟩, ⟨#[116, 97, 107, 101]⟩, ⟨#[100, 114, 111, 112]⟩, ⟨#[99, 97, 116]⟩, ⟨#[105, 110]⟩, ⟨#[97, 116]⟩, ⟨#[107, 101, 101, 112]⟩]

theorem hide {p : Prop} (h : p) : Hid p := h
theorem unhide {p : Prop} (h : Hid p) : p := h.out
theorem ret_int {k : IntKind} {a b : Int} (h : a = b) : Ending.returned (.int k a) = .returned (.int k b) := by rw [h]
theorem bcell {W w1 : World} (hb : Below W.heap.size W w1) : (∀ b o, b < W.heap.size → w1.cell? ⟨b, o, none⟩ = W.cell? ⟨b, o, none⟩) ∧ (∀ b o, b < W.heap.size → w1.frozen? ⟨b, o, none⟩ = W.frozen? ⟨b, o, none⟩) :=
  ⟨fun b o h => hb.cell (p := ⟨b, o, none⟩) h, fun b o h => hb.frozen (p := ⟨b, o, none⟩) h⟩

def hd (t : ByteArray) : Int := (t.data.toList.headD 0).toNat
theorem hd_eq (t : ByteArray) (h : 0 < t.size) : (t[0].toNat : Int) = hd t := by
  obtain ⟨⟨l⟩⟩ := t
  match l, h with
  | c :: l, _ => rfl
theorem ne1 (t : ByteArray) (h : 0 < t.size) : t.toList.isEmpty = false := by
  rw [ByteArray.toList_eq]
  obtain ⟨⟨l⟩⟩ := t
  match l, h with
  | c :: l, _ => rfl
end Go.Proofs.YtjobgpahajhbnaaGreatDoor
namespace Go.Proofs.YtjobgpahajhbnaaGreatDoor
open Go.RowKit

def dU (c : UInt8) : Bool := digB c.toNat
def lU (c : UInt8) : Bool := letB c.toNat
def gU (c : UInt8) : Bool := sgnB c.toNat
def val (l : List UInt8) : Nat := l.foldl (fun n c => 10 * n + (c.toNat - 48)) 0
def isFn (t : List UInt8) : Bool := amid fnL ⟨t.toArray⟩
def numE (k : Nat) (l : List UInt8) : Option Nat :=
  let ds := l.takeWhile dU
  if 19 < ds.length ∨ ds.length = 0 ∨ 9223372036854775807 < val ds then none else some (k + ds.length)
def wrdE (l : List UInt8) : Option Nat :=
  let n := (l.takeWhile lU).length
  if 4 < n ∧ isFn (l.take n) = false then none else some n
def tailU (c : UInt8) : Bool := c == 47 || c == 92 || c == 46
def sgnE (r : List UInt8) : Nat := match r with
  | [] => 1
  | d :: _ => if tailU d then 2 else 1
/-- how long the token is with which a text begins -/
def tl (l : List UInt8) : Option Nat := match l with
  | [] => none
  | c :: r => bif dU c then numE 0 (c :: r) else bif c == 95 then numE 1 r else bif lU c then wrdE (c :: r) else bif c == 40 || c == 41 then some 1 else bif gU c then some (sgnE r) else none

theorem all_snoc {p : UInt8 → Bool} {l : List UInt8} {j : Nat} {c : UInt8} (h : l[j]? = some c) (ha : (l.take j).all p = true) (hc : p c = true) : (l.take (j + 1)).all p = true := by
  rw [List.take_add_one, h]
  simp [ha, hc]
theorem tw_stop {p : UInt8 → Bool} : ∀ {l : List UInt8} {j : Nat}, (l.take j).all p = true → (∀ c, l[j]? = some c → p c = false) → l.takeWhile p = l.take j
  | [], j, _, _ => by simp
  | c :: r, 0, _, h2 => by simp [List.takeWhile, h2 c rfl]
  | c :: r, j + 1, h1, h2 => by
    simp at h1
    simp only [List.takeWhile, h1.1, List.take_succ_cons]
    rw [tw_stop (l := r) (j := j) (by simpa using h1.2) (by simpa using h2)]
theorem at_drop (s : ByteArray) (f j : Nat) (h : f + j < s.size) : (s.data.toList.drop f)[j]? = some (s[f + j]'h) := by
  rw [List.getElem?_drop]
  rw [List.getElem?_eq_getElem (by simpa using h)]
  rfl
theorem drop_cons (s : ByteArray) (a : Nat) (h : a < s.size) : s.data.toList.drop a = s[a] :: s.data.toList.drop (a + 1) := by
  rw [List.drop_eq_getElem_cons (by simpa using h)]
  rfl
theorem len_drop (s : ByteArray) (f : Nat) : (s.data.toList.drop f).length = s.size - f := by
  rw [List.length_drop]; simp
theorem ext_list (s : ByteArray) (a b : Nat) : (s.extract a b).data.toList = (s.data.toList.drop a).take (b - a) := by
  rw [ByteArray.data_extract, Array.toList_extract]
theorem amid_congr {L : List ByteArray} {t u : ByteArray} (h : t.data.toList = u.data.toList) : amid L t = amid L u := by
  unfold amid
  simp only [ByteArray.toList_eq, h]
end Go.Proofs.YtjobgpahajhbnaaGreatDoor
namespace Go.Proofs
def Tryz.lays137_ren : Go.Shelf.Ren := ⟨fun | 137 => 147 | 217 => 173 | 266 => 212 | n => n, fun | 9 => 9 | 5 => 5 | 3 => 3 | n => n, fun | n => n⟩
theorem Tryz.lays137 : Go.Proofs.Lays.n137 Tryz.prog Tryz.lays137_ren := {
  mixed := by kernel_rfl
  f137 := Tryz.func147.trans (congrArg some (by kernel_rfl))
  f217 := Tryz.func173.trans (congrArg some (by kernel_rfl))
  f266 := Tryz.func212.trans (congrArg some (by kernel_rfl))
  t3 := Tryz.underlying3
  a3 := Tryz.isAgg3
  z3 := Tryz.sizeOf3
  v3 := Tryz.zeroValue3
  t5 := Tryz.underlying5
  a5 := Tryz.isAgg5
  z5 := Tryz.sizeOf5
  v5 := Tryz.zeroValue5
  t9 := Tryz.underlying9
  a9 := Tryz.isAgg9
  z9 := Tryz.sizeOf9
  v9 := Tryz.zeroValue9 }
open Go.RowKit in
theorem Tryz.strings_IndexByte (s : ByteArray) (c : Int) (w : World) :
    Calls Tryz.prog 147 #[.string s, .int .u8 c] w fun e w' => e = .returned (.int .i64 (Lib.indexByte s.data.toList c.toNat.toUInt8)) ∧ w' = w := Any.strings_IndexByte Tryz.lays137 s c w
open Go.RowKit Go.Sort Go.Lib in
open Go.RowKit Go.Sort Go.Lib in
def Tryz.laysM316_ren : Go.Shelf.Ren := ⟨fun | 316 => 112 | n => n, fun | 9 => 9 | 3 => 3 | 4 => 4 | 37 => 128 | 0 => 0 | 127 => 251 | 5 => 5 | n => n, fun | n => n⟩
theorem Tryz.laysM316 : Go.Proofs.LaysM.n316 Tryz.prog Tryz.laysM316_ren := {
  mixed := by kernel_rfl
  f316 := Tryz.func112.trans (congrArg some (by kernel_rfl))
  t0 := Tryz.underlying0
  a0 := Tryz.isAgg0
  z0 := Tryz.sizeOf0
  v0 := Tryz.zeroValue0
  t3 := Tryz.underlying3
  a3 := Tryz.isAgg3
  z3 := Tryz.sizeOf3
  v3 := Tryz.zeroValue3
  t4 := Tryz.underlying4
  a4 := Tryz.isAgg4
  z4 := Tryz.sizeOf4
  v4 := Tryz.zeroValue4
  t9 := Tryz.underlying9
  a9 := Tryz.isAgg9
  z9 := Tryz.sizeOf9
  v9 := Tryz.zeroValue9
  t37 := Tryz.underlying128
  a37 := Tryz.isAgg128
  z37 := Tryz.sizeOf128
  v37 := Tryz.zeroValue128
  t127 := Tryz.underlying251
  a127 := Tryz.isAgg251
  z127 := Tryz.sizeOf251
  v127 := Tryz.zeroValue251
  t5 := Tryz.underlying5
  a5 := Tryz.isAgg5
  z5 := Tryz.sizeOf5
  v5 := Tryz.zeroValue5
  i0 := by kernel_rfl
  i3 := by kernel_rfl
  i4 := by kernel_rfl
  i5 := by kernel_rfl
  i9 := by kernel_rfl
  i37 := by kernel_rfl
  i127 := by kernel_rfl }
open Go.RowKit in
theorem Tryz.stringslite_Clone (s : ByteArray) (w : World) (hlim : s.size ≤ 281474976710656) :
    Calls Tryz.prog 112 #[.string s] w fun e w' => e = .returned (.string s) ∧ Below w.heap.size w w' := Any.stringslite_Clone Tryz.laysM316 s w hlim
def Tryz.laysC174_ren : Go.Shelf.Ren := ⟨fun | 174 => 171 | 247 => 210 | 245 => 211 | 287 => 264 | 279 => 265 | 280 => 266 | 281 => 267 | 282 => 268 | 321 => 281 | 322 => 282 | 316 => 112 | 171 => 284 | 205 => 283 | 243 => 290 | 246 => 55 | 283 => 68 | 284 => 69 | 285 => 70 | 286 => 71 | 129 => 91 | 317 => 90 | 318 => 92 | 319 => 93 | 320 => 94 | 337 => 135 | 338 => 136 | n => n, fun | 9 => 9 | 3 => 3 | 2 => 2 | 75 => 265 | 85 => 266 | 4 => 4 | 167 => 297 | 5 => 5 | 53 => 138 | 175 => 298 | 46 => 146 | 168 => 300 | 37 => 128 | 0 => 0 | 210 => 314 | 21 => 21 | 127 => 251 | 145 => 324 | 143 => 322 | 171 => 137 | 173 => 141 | 212 => 176 | 51 => 177 | 20 => 20 | 213 => 178 | 232 => 258 | 233 => 259 | 80 => 328 | n => n, fun | 15 => 4 | 16 => 5 | 17 => 0 | 18 => 1 | 19 => 2 | n => n⟩
theorem Tryz.laysC174 : Go.Proofs.LaysC.n174 Tryz.prog Tryz.laysC174_ren := {
  mixed := by kernel_rfl
  f129 := Tryz.func91.trans (congrArg some (by kernel_rfl))
  f171 := Tryz.func284.trans (congrArg some (by kernel_rfl))
  f174 := Tryz.func171.trans (congrArg some (by kernel_rfl))
  f205 := Tryz.func283.trans (congrArg some (by kernel_rfl))
  f243 := Tryz.func290.trans (congrArg some (by kernel_rfl))
  f245 := Tryz.func211.trans (congrArg some (by kernel_rfl))
  f246 := Tryz.func55.trans (congrArg some (by kernel_rfl))
  f247 := Tryz.func210.trans (congrArg some (by kernel_rfl))
  f279 := Tryz.func265.trans (congrArg some (by kernel_rfl))
  f280 := Tryz.func266.trans (congrArg some (by kernel_rfl))
  f281 := Tryz.func267.trans (congrArg some (by kernel_rfl))
  f282 := Tryz.func268.trans (congrArg some (by kernel_rfl))
  f283 := Tryz.func68.trans (congrArg some (by kernel_rfl))
  f284 := Tryz.func69.trans (congrArg some (by kernel_rfl))
  f285 := Tryz.func70.trans (congrArg some (by kernel_rfl))
  f286 := Tryz.func71.trans (congrArg some (by kernel_rfl))
  f287 := Tryz.func264.trans (congrArg some (by kernel_rfl))
  f316 := Tryz.func112.trans (congrArg some (by kernel_rfl))
  f317 := Tryz.func90.trans (congrArg some (by kernel_rfl))
  f318 := Tryz.func92.trans (congrArg some (by kernel_rfl))
  f319 := Tryz.func93.trans (congrArg some (by kernel_rfl))
  f320 := Tryz.func94.trans (congrArg some (by kernel_rfl))
  f321 := Tryz.func281.trans (congrArg some (by kernel_rfl))
  f322 := Tryz.func282.trans (congrArg some (by kernel_rfl))
  f337 := Tryz.func135.trans (congrArg some (by kernel_rfl))
  f338 := Tryz.func136.trans (congrArg some (by kernel_rfl))
  t0 := Tryz.underlying0
  a0 := Tryz.isAgg0
  z0 := Tryz.sizeOf0
  v0 := Tryz.zeroValue0
  t2 := Tryz.underlying2
  a2 := Tryz.isAgg2
  z2 := Tryz.sizeOf2
  v2 := Tryz.zeroValue2
  t3 := Tryz.underlying3
  a3 := Tryz.isAgg3
  z3 := Tryz.sizeOf3
  v3 := Tryz.zeroValue3
  t4 := Tryz.underlying4
  a4 := Tryz.isAgg4
  z4 := Tryz.sizeOf4
  v4 := Tryz.zeroValue4
  t5 := Tryz.underlying5
  a5 := Tryz.isAgg5
  z5 := Tryz.sizeOf5
  v5 := Tryz.zeroValue5
  t9 := Tryz.underlying9
  a9 := Tryz.isAgg9
  z9 := Tryz.sizeOf9
  v9 := Tryz.zeroValue9
  t20 := Tryz.underlying20
  a20 := Tryz.isAgg20
  z20 := Tryz.sizeOf20
  v20 := Tryz.zeroValue20
  t21 := Tryz.underlying21
  a21 := Tryz.isAgg21
  z21 := Tryz.sizeOf21
  v21 := Tryz.zeroValue21
  t37 := Tryz.underlying128
  a37 := Tryz.isAgg128
  z37 := Tryz.sizeOf128
  v37 := Tryz.zeroValue128
  t46 := Tryz.underlying146
  a46 := Tryz.isAgg146
  z46 := Tryz.sizeOf146
  v46 := Tryz.zeroValue146
  t51 := Tryz.underlying177
  a51 := Tryz.isAgg177
  z51 := Tryz.sizeOf177
  v51 := Tryz.zeroValue177
  t53 := Tryz.underlying138
  a53 := Tryz.isAgg138
  z53 := Tryz.sizeOf138
  v53 := Tryz.zeroValue138
  t75 := Tryz.underlying265
  a75 := Tryz.isAgg265
  z75 := Tryz.sizeOf265
  v75 := Tryz.zeroValue265
  t85 := Tryz.underlying266
  a85 := Tryz.isAgg266
  z85 := Tryz.sizeOf266
  v85 := Tryz.zeroValue266
  t127 := Tryz.underlying251
  a127 := Tryz.isAgg251
  z127 := Tryz.sizeOf251
  v127 := Tryz.zeroValue251
  t143 := Tryz.underlying322
  a143 := Tryz.isAgg322
  z143 := Tryz.sizeOf322
  v143 := Tryz.zeroValue322
  t145 := Tryz.underlying324
  a145 := Tryz.isAgg324
  z145 := Tryz.sizeOf324
  v145 := Tryz.zeroValue324
  t167 := Tryz.underlying297
  a167 := Tryz.isAgg297
  z167 := Tryz.sizeOf297
  v167 := Tryz.zeroValue297
  t168 := Tryz.underlying300
  a168 := Tryz.isAgg300
  z168 := Tryz.sizeOf300
  v168 := Tryz.zeroValue300
  t171 := Tryz.underlying137
  a171 := Tryz.isAgg137
  z171 := Tryz.sizeOf137
  v171 := Tryz.zeroValue137
  t173 := Tryz.underlying141
  a173 := Tryz.isAgg141
  z173 := Tryz.sizeOf141
  v173 := Tryz.zeroValue141
  t175 := Tryz.underlying298
  a175 := Tryz.isAgg298
  z175 := Tryz.sizeOf298
  v175 := Tryz.zeroValue298
  t210 := Tryz.underlying314
  a210 := Tryz.isAgg314
  z210 := Tryz.sizeOf314
  v210 := Tryz.zeroValue314
  t212 := Tryz.underlying176
  a212 := Tryz.isAgg176
  z212 := Tryz.sizeOf176
  v212 := Tryz.zeroValue176
  t213 := Tryz.underlying178
  a213 := Tryz.isAgg178
  z213 := Tryz.sizeOf178
  t232 := Tryz.underlying258
  a232 := Tryz.isAgg258
  z232 := Tryz.sizeOf258
  v232 := Tryz.zeroValue258
  t233 := Tryz.underlying259
  a233 := Tryz.isAgg259
  z233 := Tryz.sizeOf259
  v233 := Tryz.zeroValue259
  g15 := by kernel_rfl
  g16 := by kernel_rfl
  g17 := by kernel_rfl
  g18 := by kernel_rfl
  g19 := by kernel_rfl
  t80 := Tryz.underlying328
  a80 := Tryz.isAgg328
  z80 := Tryz.sizeOf328
  v80 := Tryz.zeroValue328
  i0 := by kernel_rfl
  i2 := by kernel_rfl
  i3 := by kernel_rfl
  i4 := by kernel_rfl
  i5 := by kernel_rfl
  i9 := by kernel_rfl
  i20 := by kernel_rfl
  i21 := by kernel_rfl
  i37 := by kernel_rfl
  i46 := by kernel_rfl
  i51 := by kernel_rfl
  i53 := by kernel_rfl
  i75 := by kernel_rfl
  i80 := by kernel_rfl
  i85 := by kernel_rfl
  i127 := by kernel_rfl
  i143 := by kernel_rfl
  i145 := by kernel_rfl
  i167 := by kernel_rfl
  i168 := by kernel_rfl
  i171 := by kernel_rfl
  i173 := by kernel_rfl
  i175 := by kernel_rfl
  i210 := by kernel_rfl
  i212 := by kernel_rfl
  i232 := by kernel_rfl
  i233 := by kernel_rfl
  m15 := by kernel_rfl
  m16 := by kernel_rfl
  m17 := by kernel_rfl
  m18 := by kernel_rfl
  m19 := by kernel_rfl
  c0 := by kernel_rfl
  c2 := by kernel_rfl
  c3 := by kernel_rfl
  c4 := by kernel_rfl
  c5 := by kernel_rfl
  c9 := by kernel_rfl
  c20 := by kernel_rfl
  c21 := by kernel_rfl
  c37 := by kernel_rfl
  c46 := by kernel_rfl
  c51 := by kernel_rfl
  c53 := by kernel_rfl
  c75 := by kernel_rfl
  c80 := by kernel_rfl
  c85 := by kernel_rfl
  c127 := by kernel_rfl
  c143 := by kernel_rfl
  c145 := by kernel_rfl
  c167 := by kernel_rfl
  c168 := by kernel_rfl
  c171 := by kernel_rfl
  c173 := by kernel_rfl
  c175 := by kernel_rfl
  c210 := by kernel_rfl
  c212 := by kernel_rfl
  c213 := by kernel_rfl
  c232 := by kernel_rfl
  c233 := by kernel_rfl }
open Go.RowKit in
theorem Tryz.strconv_ParseInt_10_at64_ok (s : ByteArray) (hmax : s.size ≤ 9223372036854775806) (v : Int) (h : Lib.parseIntB 64 s.data.toList = .ok v) (w : World) :
    Calls Tryz.prog 171 #[.string s, .int .i64 10, .int .i64 64] w fun e w' => e = .returned (.tuple #[.int .i64 v, .nilIface]) ∧ (w' = w ∨ ∃ t, w' = Lib.bytesWorld w 5 t) := Any.strconv_ParseInt_10_at64_ok Tryz.laysC174 s hmax v h w
def Tryz.lays144_ren : Go.Shelf.Ren := ⟨fun | 144 => 214 | 143 => 270 | 219 => 285 | 217 => 173 | 225 => 291 | 224 => 292 | 267 => 293 | 266 => 212 | 314 => 296 | n => n, fun | 9 => 9 | 4 => 4 | 3 => 3 | 5 => 5 | 46 => 146 | 146 => 316 | 51 => 177 | n => n, fun | 1 => 3 | n => n⟩
theorem Tryz.lays144 : Go.Proofs.Lays.n144 Tryz.prog Tryz.lays144_ren := {
  mixed := by kernel_rfl
  f143 := Tryz.func270.trans (congrArg some (by kernel_rfl))
  f144 := Tryz.func214.trans (congrArg some (by kernel_rfl))
  f217 := Tryz.func173.trans (congrArg some (by kernel_rfl))
  f219 := Tryz.func285.trans (congrArg some (by kernel_rfl))
  f224 := Tryz.func292.trans (congrArg some (by kernel_rfl))
  f225 := Tryz.func291.trans (congrArg some (by kernel_rfl))
  f266 := Tryz.func212.trans (congrArg some (by kernel_rfl))
  f267 := Tryz.func293.trans (congrArg some (by kernel_rfl))
  f314 := Tryz.func296.trans (congrArg some (by kernel_rfl))
  t3 := Tryz.underlying3
  a3 := Tryz.isAgg3
  z3 := Tryz.sizeOf3
  v3 := Tryz.zeroValue3
  t4 := Tryz.underlying4
  a4 := Tryz.isAgg4
  z4 := Tryz.sizeOf4
  v4 := Tryz.zeroValue4
  t5 := Tryz.underlying5
  a5 := Tryz.isAgg5
  z5 := Tryz.sizeOf5
  v5 := Tryz.zeroValue5
  t9 := Tryz.underlying9
  a9 := Tryz.isAgg9
  z9 := Tryz.sizeOf9
  v9 := Tryz.zeroValue9
  t46 := Tryz.underlying146
  a46 := Tryz.isAgg146
  z46 := Tryz.sizeOf146
  v46 := Tryz.zeroValue146
  t51 := Tryz.underlying177
  a51 := Tryz.isAgg177
  z51 := Tryz.sizeOf177
  v51 := Tryz.zeroValue177
  t146 := Tryz.underlying316
  a146 := Tryz.isAgg316
  z146 := Tryz.sizeOf316
  v146 := Tryz.zeroValue316
  g1 := by kernel_rfl }
open Go.RowKit Go.Lib in
theorem Tryz.strings_Contains_one (s : ByteArray) (c : UInt8) (w : World) :
    Calls Tryz.prog 214 #[.string s, .string ⟨#[c]⟩] w fun e w' => e = .returned (.bool (decide (0 ≤ Lib.indexByte s.data.toList c))) ∧ w' = w := Any.strings_Contains_one Tryz.lays144 s c w
def Tryz.lays100_ren : Go.Shelf.Ren := ⟨fun | 100 => 213 | 207 => 269 | n => n, fun | 9 => 9 | 4 => 4 | 3 => 3 | n => n, fun | n => n⟩
theorem Tryz.lays100 : Go.Proofs.Lays.n100 Tryz.prog Tryz.lays100_ren := {
  mixed := by kernel_rfl
  f100 := Tryz.func213.trans (congrArg some (by kernel_rfl))
  f207 := Tryz.func269.trans (congrArg some (by kernel_rfl))
  t3 := Tryz.underlying3
  a3 := Tryz.isAgg3
  z3 := Tryz.sizeOf3
  v3 := Tryz.zeroValue3
  t4 := Tryz.underlying4
  a4 := Tryz.isAgg4
  z4 := Tryz.sizeOf4
  v4 := Tryz.zeroValue4
  t9 := Tryz.underlying9
  a9 := Tryz.isAgg9
  z9 := Tryz.sizeOf9
  v9 := Tryz.zeroValue9 }
open Go.RowKit Go.Lib in
theorem Tryz.strings_HasSuffix (s p : ByteArray) (w : World) (hs : s.size ≤ 9223372036854775807) :
    Calls Tryz.prog 213 #[.string s, .string p] w fun e w' => e = .returned (.bool (Lib.hasSuffix s.data.toList p.data.toList)) ∧ w' = w := Any.strings_HasSuffix Tryz.lays100 s p w hs
def Tryz.lays212_ren : Go.Shelf.Ren := ⟨fun | 212 => 272 | 263 => 286 | 264 => 287 | n => n, fun | 46 => 146 | 51 => 177 | 146 => 316 | 53 => 138 | 148 => 318 | n => n, fun | n => n⟩
theorem Tryz.lays212 : Go.Proofs.Lays.n212 Tryz.prog Tryz.lays212_ren := {
  mixed := by kernel_rfl
  f212 := Tryz.func272.trans (congrArg some (by kernel_rfl))
  f263 := Tryz.func286.trans (congrArg some (by kernel_rfl))
  f264 := Tryz.func287.trans (congrArg some (by kernel_rfl))
  t46 := Tryz.underlying146
  a46 := Tryz.isAgg146
  z46 := Tryz.sizeOf146
  v46 := Tryz.zeroValue146
  t51 := Tryz.underlying177
  a51 := Tryz.isAgg177
  z51 := Tryz.sizeOf177
  v51 := Tryz.zeroValue177
  t53 := Tryz.underlying138
  a53 := Tryz.isAgg138
  z53 := Tryz.sizeOf138
  v53 := Tryz.zeroValue138
  t146 := Tryz.underlying316
  a146 := Tryz.isAgg316
  z146 := Tryz.sizeOf316
  v146 := Tryz.zeroValue316
  t148 := Tryz.underlying318
  a148 := Tryz.isAgg318
  z148 := Tryz.sizeOf318
  v148 := Tryz.zeroValue318 }
open Go.RowKit Go.Lib in
theorem Tryz.bits_Mul (x y : Nat) (hx : x < 18446744073709551616) (hy : y < 18446744073709551616) (w : World) :
    Calls Tryz.prog 272 #[.int .u64 x, .int .u64 y] w fun e w' => e = .returned (.tuple #[.int .u64 ((x * y / 18446744073709551616 : Nat) : Int), .int .u64 ((x * y % 18446744073709551616 : Nat) : Int)]) ∧ w' = w := Any.bits_Mul Tryz.lays212 x y hx hy w
def Tryz.lays111_ren : Go.Shelf.Ren := ⟨fun | 111 => 256 | n => n, fun | 28 => 37 | 3 => 3 | 4 => 4 | 0 => 0 | n => n, fun | n => n⟩
theorem Tryz.lays111 : Go.Proofs.Lays.n111 Tryz.prog Tryz.lays111_ren := {
  mixed := by kernel_rfl
  f111 := Tryz.func256.trans (congrArg some (by kernel_rfl))
  t0 := Tryz.underlying0
  a0 := Tryz.isAgg0
  z0 := Tryz.sizeOf0
  v0 := Tryz.zeroValue0
  t3 := Tryz.underlying3
  a3 := Tryz.isAgg3
  z3 := Tryz.sizeOf3
  v3 := Tryz.zeroValue3
  t4 := Tryz.underlying4
  a4 := Tryz.isAgg4
  z4 := Tryz.sizeOf4
  v4 := Tryz.zeroValue4
  t28 := Tryz.underlying37
  a28 := Tryz.isAgg37
  z28 := Tryz.sizeOf37
  v28 := Tryz.zeroValue37 }
open Go.RowKit Go.Lib in
theorem Tryz.slices_Equal_int (b1 o1 n c b2 o2 m d : Nat) (xs ys : List Int) (w : World) (hx : n ≤ xs.length) (hy : m ≤ ys.length) (hbig : n ≤ 9223372036854775807) (hbig2 : m ≤ 9223372036854775807) (hc1 : ∀ j, j < xs.length → w.cell? ⟨b1, o1 + j, none⟩ = some (.int .i64 (xs.getD j 0))) (hc2 : ∀ j, j < ys.length → w.cell? ⟨b2, o2 + j, none⟩ = some (.int .i64 (ys.getD j 0))) :
    Calls Tryz.prog 256 #[.slice (some ⟨b1, o1, none⟩) n c, .slice (some ⟨b2, o2, none⟩) m d] w fun e w' => e = .returned (.bool (xs.take n == ys.take m)) ∧ ∃ q, w' = w.drewN q := Any.slices_Equal_int Tryz.lays111 b1 o1 n c b2 o2 m d xs ys w hx hy hbig hbig2 hc1 hc2
open Go.RowKit Go.Lib in
theorem Tryz.slices_Equal_int_empty (a1 a2 : Option Addr) (c m d : Nat) (w : World) (hbig2 : m ≤ 9223372036854775807) :
    Calls Tryz.prog 256 #[.slice a1 0 c, .slice a2 m d] w fun e w' => e = .returned (.bool (decide (m = 0))) ∧ w' = w := Any.slices_Equal_int_empty Tryz.lays111 a1 a2 c m d w hbig2
def Tryz.laysSlE041_f79_ren : Go.Shelf.Ren := ⟨fun | 41 => 79 | n => n, fun | 22 => 37 | 23 => 3 | 4 => 4 | n => n, fun | n => n⟩
theorem Tryz.laysSlE041_f79 : Go.Proofs.SlLaysE0.n41 Tryz.prog Tryz.laysSlE041_f79_ren := {
  mixed := by kernel_rfl
  f41 := ⟨Tryz.f79.name, by decide, Tryz.func79.trans (congrArg some (by kernel_rfl))⟩
  t4 := Tryz.underlying4
  a4 := Tryz.isAgg4
  z4 := Tryz.sizeOf4
  v4 := Tryz.zeroValue4
  t22 := Tryz.underlying37
  a22 := Tryz.isAgg37
  z22 := Tryz.sizeOf37
  v22 := Tryz.zeroValue37 }
open Go.RowKit Go.Lib in
theorem Tryz.slices_Clone_f79 (i0 : TypeInfo) (z : Value) (size bytes : Nat) (hi : Tryz.prog.info? 3 = some i0) (hz0 : i0.zero = some z) (hz1 : i0.size = size) (hz2 : i0.bytes = bytes) (hzs : z.cells.size = size) (hsz : 0 < size) (z23 : ∀ w, (Go.sizeOf 3).run Tryz.prog w = .ok size w) (b off n c : Nat) (news : List Value) (w : World) (hl : news.length = n * size) (hn : n ≤ maxLen) (hbig : n * bytes ≤ 140737488355328) (hc : ∀ j u, news[j]? = some u → w.cell? ⟨b, off + j, none⟩ = some u) (h1 : ∀ u ∈ news, u.oneCell' = true) :
    Calls Tryz.prog 79 #[.slice (some ⟨b, off, none⟩) n c] w fun e w' => ∃ v', e = .returned v' ∧ w'.ownsRow w.heap.size 3 size v' n news ∧ v' ≠ .slice none 0 0 ∧ Below w.heap.size w w' := AnyE.slices_Clone Tryz.laysSlE041_f79 i0 z size bytes hi hz0 hz1 hz2 hzs hsz z23 b off n c news w hl hn hbig hc h1
def Tryz.laysSlE041_f80_ren : Go.Shelf.Ren := ⟨fun | 41 => 80 | n => n, fun | 22 => 32 | 23 => 2 | 4 => 4 | n => n, fun | n => n⟩
theorem Tryz.laysSlE041_f80 : Go.Proofs.SlLaysE0.n41 Tryz.prog Tryz.laysSlE041_f80_ren := {
  mixed := by kernel_rfl
  f41 := ⟨Tryz.f80.name, by decide, Tryz.func80.trans (congrArg some (by kernel_rfl))⟩
  t4 := Tryz.underlying4
  a4 := Tryz.isAgg4
  z4 := Tryz.sizeOf4
  v4 := Tryz.zeroValue4
  t22 := Tryz.underlying32
  a22 := Tryz.isAgg32
  z22 := Tryz.sizeOf32
  v22 := Tryz.zeroValue32 }
open Go.RowKit Go.Lib in
theorem Tryz.slices_Clone_f80 (i0 : TypeInfo) (z : Value) (size bytes : Nat) (hi : Tryz.prog.info? 2 = some i0) (hz0 : i0.zero = some z) (hz1 : i0.size = size) (hz2 : i0.bytes = bytes) (hzs : z.cells.size = size) (hsz : 0 < size) (z23 : ∀ w, (Go.sizeOf 2).run Tryz.prog w = .ok size w) (b off n c : Nat) (news : List Value) (w : World) (hl : news.length = n * size) (hn : n ≤ maxLen) (hbig : n * bytes ≤ 140737488355328) (hc : ∀ j u, news[j]? = some u → w.cell? ⟨b, off + j, none⟩ = some u) (h1 : ∀ u ∈ news, u.oneCell' = true) :
    Calls Tryz.prog 80 #[.slice (some ⟨b, off, none⟩) n c] w fun e w' => ∃ v', e = .returned v' ∧ w'.ownsRow w.heap.size 2 size v' n news ∧ v' ≠ .slice none 0 0 ∧ Below w.heap.size w w' := AnyE.slices_Clone Tryz.laysSlE041_f80 i0 z size bytes hi hz0 hz1 hz2 hzs hsz z23 b off n c news w hl hn hbig hc h1
open Go.RowKit Go.Lib in
theorem Tryz.slices_Clone_nil_f79 (n c : Nat) (w : World) :
    Calls Tryz.prog 79 #[.slice none n c] w fun e w' => e = .returned (.slice none 0 0) ∧ w' = w := AnyE.slices_Clone_nil Tryz.laysSlE041_f79 n c w
open Go.RowKit Go.Lib in
theorem Tryz.slices_Clone_nil_f80 (n c : Nat) (w : World) :
    Calls Tryz.prog 80 #[.slice none n c] w fun e w' => e = .returned (.slice none 0 0) ∧ w' = w := AnyE.slices_Clone_nil Tryz.laysSlE041_f80 n c w
open Go.RowKit in
/-- a numeral that no int64 holds -/
theorem Tryz.strconv_ParseInt_10_at64_range (s : ByteArray) (hlim : s.size ≤ 281474976710656) (h : Lib.parseIntB 64 s.data.toList = .range) (ev : Value) (w : World) (hv : w.cell? ⟨5, 0, none⟩ = some ev) (hev : ev = .nilIface ∨ ∃ te pe, ev = .iface te pe) :
    Calls Tryz.prog 171 #[.string s, .int .i64 10, .int .i64 64] w fun e w' => ∃ v N, e = .returned (.tuple #[.int .i64 v, .iface 300 (.pointer (some ⟨N, 0, none⟩))]) ∧ Below w.heap.size w w' := by
  refine (Any.strconv_ParseInt_10_at64_range Tryz.laysC174 s hlim h ev w hv hev).mono ?_
  rintro e w' ⟨N, he, _, _, hb⟩
  exact ⟨_, N, he, hb⟩
open Go.RowKit in
/-- the empty text -/
theorem Tryz.strconv_ParseInt_10_at64_none (s : ByteArray) (h : s.size = 0) (ev : Value) (w : World) (hv : w.cell? ⟨4, 0, none⟩ = some ev) (hev : ev = .nilIface ∨ ∃ te pe, ev = .iface te pe) :
    Calls Tryz.prog 171 #[.string s, .int .i64 10, .int .i64 64] w fun e w' => ∃ v N, e = .returned (.tuple #[.int .i64 v, .iface 300 (.pointer (some ⟨N, 0, none⟩))]) ∧ Below w.heap.size w w' := by
  obtain ⟨⟨l⟩⟩ := s
  have hl : l = [] := List.length_eq_zero_iff.1 h
  subst hl
  refine (Any.strconv_ParseInt_10_at64_syntax Tryz.laysC174 ⟨#[]⟩ (by decide) rfl ev w hv hev).mono ?_
  rintro e w' ⟨N, he, _, _, hb⟩
  exact ⟨_, N, he, hb⟩
end Go.Proofs
namespace Go.Proofs.YtjobgpahajhbnaaGreatDoor
open Go.RowKit

set_option maxHeartbeats 400000 in
theorem isDigit_any (c : Int) (w : World) :
    Calls Tryz.prog 143 #[.int .u8 c] w fun e w' => e = .returned (.bool (digB c)) ∧ w' = w := by
  by_cases h : 48 ≤ c
  all_goals
    go_enter Tryz.func143, Tryz.ntmps143
    go_wp2
    go_ret
    refine ⟨?_, rfl⟩
    unfold digB
    congr 2
    simp; try omega

set_option maxHeartbeats 400000 in
theorem isLetter_any (c : Int) (w : World) :
    Calls Tryz.prog 145 #[.int .u8 c] w fun e w' => e = .returned (.bool (letB c)) ∧ w' = w := by
  by_cases h : 97 ≤ c
  all_goals
    go_enter Tryz.func145, Tryz.ntmps145
    go_wp2
    go_ret
    refine ⟨?_, rfl⟩
    unfold letB
    congr 2
    simp; try omega

def wRole (t : ByteArray) : Int :=
  bif t.toList == [105, 111, 116, 97] then 1 else bif t.toList == [117, 112] then 1 else bif t.toList == [100, 111, 119, 110] then 1 else bif t.toList == [102, 108, 105, 112] then 1 else bif t.toList == [114, 97, 118, 101, 108] then 1 else bif t.toList == [114, 104, 111] then 3 else bif t.toList == [114, 101, 118] then 3 else bif t.toList == [116, 97, 107, 101] then 2 else bif t.toList == [100, 114, 111, 112] then 2 else bif t.toList == [99, 97, 116] then 2 else bif t.toList == [105, 110] then 2 else bif t.toList == [97, 116] then 2 else bif t.toList == [107, 101, 101, 112] then 2 else 0
set_option maxHeartbeats 1000000 in
theorem wordRoles_any (t : ByteArray) (w : World) :
    Calls Tryz.prog 172 #[.string t] w fun e w' => e = .returned (.int .i64 (wRole t)) ∧ w' = w := by
  cases h0 : (t.toList == [105, 111, 116, 97])
  rotate_left
  · have H0 := hide h0
    go_enter Tryz.func172, Tryz.ntmps172
    go_wp2_with fail
    go_ret
    exact ⟨ret_int (by simp [wRole, unhide H0]), rfl⟩
  have H0 := hide h0
  cases h1 : (t.toList == [117, 112])
  rotate_left
  · have H1 := hide h1
    go_enter Tryz.func172, Tryz.ntmps172
    go_wp2_with fail
    go_ret
    exact ⟨ret_int (by simp [wRole, unhide H0, unhide H1]), rfl⟩
  have H1 := hide h1
  cases h2 : (t.toList == [100, 111, 119, 110])
  rotate_left
  · have H2 := hide h2
    go_enter Tryz.func172, Tryz.ntmps172
    go_wp2_with fail
    go_ret
    exact ⟨ret_int (by simp [wRole, unhide H0, unhide H1, unhide H2]), rfl⟩
  have H2 := hide h2
  cases h3 : (t.toList == [102, 108, 105, 112])
  rotate_left
  · have H3 := hide h3
    go_enter Tryz.func172, Tryz.ntmps172
    go_wp2_with fail
    go_ret
    exact ⟨ret_int (by simp [wRole, unhide H0, unhide H1, unhide H2, unhide H3]), rfl⟩
  have H3 := hide h3
  cases h4 : (t.toList == [114, 97, 118, 101, 108])
  rotate_left
  · have H4 := hide h4
    go_enter Tryz.func172, Tryz.ntmps172
    go_wp2_with fail
    go_ret
    exact ⟨ret_int (by simp [wRole, unhide H0, unhide H1, unhide H2, unhide H3, unhide H4]), rfl⟩
  have H4 := hide h4
  cases h5 : (t.toList == [114, 104, 111])
  rotate_left
  · have H5 := hide h5
    go_enter Tryz.func172, Tryz.ntmps172
    go_wp2_with fail
    go_ret
    exact ⟨ret_int (by simp [wRole, unhide H0, unhide H1, unhide H2, unhide H3, unhide H4, unhide H5]), rfl⟩
  have H5 := hide h5
  cases h6 : (t.toList == [114, 101, 118])
  rotate_left
  · have H6 := hide h6
    go_enter Tryz.func172, Tryz.ntmps172
    go_wp2_with fail
    go_ret
    exact ⟨ret_int (by simp [wRole, unhide H0, unhide H1, unhide H2, unhide H3, unhide H4, unhide H5, unhide H6]), rfl⟩
  have H6 := hide h6
  cases h7 : (t.toList == [116, 97, 107, 101])
  rotate_left
  · have H7 := hide h7
    go_enter Tryz.func172, Tryz.ntmps172
    go_wp2_with fail
    go_ret
    exact ⟨ret_int (by simp [wRole, unhide H0, unhide H1, unhide H2, unhide H3, unhide H4, unhide H5, unhide H6, unhide H7]), rfl⟩
  have H7 := hide h7
  cases h8 : (t.toList == [100, 114, 111, 112])
  rotate_left
  · have H8 := hide h8
    go_enter Tryz.func172, Tryz.ntmps172
    go_wp2_with fail
    go_ret
    exact ⟨ret_int (by simp [wRole, unhide H0, unhide H1, unhide H2, unhide H3, unhide H4, unhide H5, unhide H6, unhide H7, unhide H8]), rfl⟩
  have H8 := hide h8
  cases h9 : (t.toList == [99, 97, 116])
  rotate_left
  · have H9 := hide h9
    go_enter Tryz.func172, Tryz.ntmps172
    go_wp2_with fail
    go_ret
    exact ⟨ret_int (by simp [wRole, unhide H0, unhide H1, unhide H2, unhide H3, unhide H4, unhide H5, unhide H6, unhide H7, unhide H8, unhide H9]), rfl⟩
  have H9 := hide h9
  cases h10 : (t.toList == [105, 110])
  rotate_left
  · have H10 := hide h10
    go_enter Tryz.func172, Tryz.ntmps172
    go_wp2_with fail
    go_ret
    exact ⟨ret_int (by simp [wRole, unhide H0, unhide H1, unhide H2, unhide H3, unhide H4, unhide H5, unhide H6, unhide H7, unhide H8, unhide H9, unhide H10]), rfl⟩
  have H10 := hide h10
  cases h11 : (t.toList == [97, 116])
  rotate_left
  · have H11 := hide h11
    go_enter Tryz.func172, Tryz.ntmps172
    go_wp2_with fail
    go_ret
    exact ⟨ret_int (by simp [wRole, unhide H0, unhide H1, unhide H2, unhide H3, unhide H4, unhide H5, unhide H6, unhide H7, unhide H8, unhide H9, unhide H10, unhide H11]), rfl⟩
  have H11 := hide h11
  cases h12 : (t.toList == [107, 101, 101, 112])
  rotate_left
  · have H12 := hide h12
    go_enter Tryz.func172, Tryz.ntmps172
    go_wp2_with fail
    go_ret
    exact ⟨ret_int (by simp [wRole, unhide H0, unhide H1, unhide H2, unhide H3, unhide H4, unhide H5, unhide H6, unhide H7, unhide H8, unhide H9, unhide H10, unhide H11, unhide H12]), rfl⟩
  have H12 := hide h12
  go_enter Tryz.func172, Tryz.ntmps172
  go_wp2_with fail
  go_ret
  exact ⟨ret_int (by simp [wRole, unhide H0, unhide H1, unhide H2, unhide H3, unhide H4, unhide H5, unhide H6, unhide H7, unhide H8, unhide H9, unhide H10, unhide H11, unhide H12]), rfl⟩

theorem countDig_stop (t : ByteArray) (k : Nat) (hk : k ≤ t.size) (ha : (t.data.toList.take k).all dU = true) (hs : ∀ c, t.data.toList[k]? = some c → dU c = false) : (k : Int) = (t.data.toList.takeWhile dU).length := by
  rw [tw_stop ha hs, List.length_take]
  have : t.data.toList.length = t.size := by simp
  omega
set_option maxHeartbeats 400000 in
theorem countDig (t : ByteArray) (w : World) (hs : t.size ≤ 200) :
    Calls Tryz.prog 170 #[.string t, .func (Fn.func 143) #[] #[]] w fun e w' => e = .returned (.int .i64 (t.data.toList.takeWhile dU).length) ∧ w' = w := by
  go_enter Tryz.func170, Tryz.ntmps170
  go_wp2_with fail
  go_loop [8] (fun i => ∃ k : Nat, k ≤ t.size ∧ i = .int .i64 k ∧ (t.data.toList.take k).all dU = true) (fun i => t.size - (intOf i).toNat)
  case atStart => exact ⟨0, Nat.zero_le _, rfl, by simp⟩
  case round =>
    obtain ⟨k, hk, rfl, hall⟩ := hrel
    have HA := hide hall
    clear hall
    by_cases hlt : k < t.size
    · have hat := at_drop t 0 k (by omega)
      simp only [List.drop_zero, Nat.zero_add] at hat
      have HT := hide hat
      clear hat
      cases hg : digB ((t[k]'hlt).toNat : Int)
      · have HG := hide hg
        go_wp2_with (go_at_call 143; refine (isDigit_any _ _).mono ?_; rintro e w' ⟨rfl, rfl⟩)
        go_ret
        exact ⟨ret_int (countDig_stop t k hk (unhide HA) (by
          intro c hc
          rw [unhide HT] at hc
          injection hc with e
          subst e
          exact unhide HG)), rfl⟩
      · have HG := hide hg
        go_wp2_with (go_at_call 143; refine (isDigit_any _ _).mono ?_; rintro e w' ⟨rfl, rfl⟩)
        go_round
        case rel => exact ⟨k + 1, by omega, by go_num, all_snoc (unhide HT) (unhide HA) (unhide HG)⟩
        case measure => simp [intOf]; omega
    · have he : k = t.size := by omega
      have HE := hide he
      clear he
      go_wp2_with (go_at_call 143; refine (isDigit_any _ _).mono ?_; rintro e w' ⟨rfl, rfl⟩)
      go_ret
      refine ⟨ret_int ?_, rfl⟩
      rw [← countDig_stop t k hk (unhide HA) (by
          intro c hc
          rw [List.getElem?_eq_none (by have := unhide HE; simp; omega)] at hc
          cases hc)]
      rw [unhide HE]
theorem countLet_stop (t : ByteArray) (k : Nat) (hk : k ≤ t.size) (ha : (t.data.toList.take k).all lU = true) (hs : ∀ c, t.data.toList[k]? = some c → lU c = false) : (k : Int) = (t.data.toList.takeWhile lU).length := by
  rw [tw_stop ha hs, List.length_take]
  have : t.data.toList.length = t.size := by simp
  omega
set_option maxHeartbeats 400000 in
theorem countLet (t : ByteArray) (w : World) (hs : t.size ≤ 200) :
    Calls Tryz.prog 170 #[.string t, .func (Fn.func 145) #[] #[]] w fun e w' => e = .returned (.int .i64 (t.data.toList.takeWhile lU).length) ∧ w' = w := by
  go_enter Tryz.func170, Tryz.ntmps170
  go_wp2_with fail
  go_loop [8] (fun i => ∃ k : Nat, k ≤ t.size ∧ i = .int .i64 k ∧ (t.data.toList.take k).all lU = true) (fun i => t.size - (intOf i).toNat)
  case atStart => exact ⟨0, Nat.zero_le _, rfl, by simp⟩
  case round =>
    obtain ⟨k, hk, rfl, hall⟩ := hrel
    have HA := hide hall
    clear hall
    by_cases hlt : k < t.size
    · have hat := at_drop t 0 k (by omega)
      simp only [List.drop_zero, Nat.zero_add] at hat
      have HT := hide hat
      clear hat
      cases hg : letB ((t[k]'hlt).toNat : Int)
      · have HG := hide hg
        go_wp2_with (go_at_call 145; refine (isLetter_any _ _).mono ?_; rintro e w' ⟨rfl, rfl⟩)
        go_ret
        exact ⟨ret_int (countLet_stop t k hk (unhide HA) (by
          intro c hc
          rw [unhide HT] at hc
          injection hc with e
          subst e
          exact unhide HG)), rfl⟩
      · have HG := hide hg
        go_wp2_with (go_at_call 145; refine (isLetter_any _ _).mono ?_; rintro e w' ⟨rfl, rfl⟩)
        go_round
        case rel => exact ⟨k + 1, by omega, by go_num, all_snoc (unhide HT) (unhide HA) (unhide HG)⟩
        case measure => simp [intOf]; omega
    · have he : k = t.size := by omega
      have HE := hide he
      clear he
      go_wp2_with (go_at_call 145; refine (isLetter_any _ _).mono ?_; rintro e w' ⟨rfl, rfl⟩)
      go_ret
      refine ⟨ret_int ?_, rfl⟩
      rw [← countLet_stop t k hk (unhide HA) (by
          intro c hc
          rw [List.getElem?_eq_none (by have := unhide HE; simp; omega)] at hc
          cases hc)]
      rw [unhide HE]
end Go.Proofs.YtjobgpahajhbnaaGreatDoor
