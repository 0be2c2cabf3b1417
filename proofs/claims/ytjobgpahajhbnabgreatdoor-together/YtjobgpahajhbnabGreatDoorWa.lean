import Derived.Test.YtjobgpahajhbnabGreatDoorProg
import Derived.WalkKit
import Derived.WalkSpells
import Derived.WalkLawsBesides
import Derived.Shelf.Small.Strs
import Derived.Shelf.Strings.Shaped
import Derived.Shelf.Strings.Prefix
import Derived.Shelf.Strconv.ParseIntPublic10
import Derived.Shelf.Strconv.Itoa4
import Derived.Shelf.Strconv.Clone
import Derived.Shelf.Bits.Mul64
import Derived.Shelf.Slices.Equal
import Derived.Ground.Names2Prog
import Derived.Ground.SlgnProg
import Derived.Shelf.SlicesE.Clone
import Derived.Lib.ParseIntB
import Derived.KernelRfl
import Derived.Deep.QuietTactic
import Derived.BigQuiet
import Derived.Deep.RegionHeld3
namespace Go.Proofs.YtjobgpahajhbnabGreatDoor
open Go.RowKit
def digB (c : Int) : Bool := decide (48 ≤ c ∧ c ≤ 57)
def letB (c : Int) : Bool := decide (97 ≤ c ∧ c ≤ 122)
def sgnB (c : Int) : Bool := decide (c = 43 ∨ c = 45 ∨ c = 42 ∨ c = 37 ∨ c = 124 ∨ c = 38 ∨ c = 33 ∨ c = 61 ∨ c = 60)
def amid (L : List ByteArray) (t : ByteArray) : Bool := L.any fun x => x.toList == t.toList
def fnL : List ByteArray := [⟨#[105, 111, 116, 97]⟩, ⟨#[114, 104, 111]⟩, ⟨#[114, 101, 118]⟩, ⟨#[117, 112]⟩, ⟨#[100, 111, 119, 110]⟩, ⟨#[102, 108, 105, 112]⟩, ⟨#[114, 97, 118, 101, 108]⟩, ⟨#[116, 97, 107, 101]⟩, ⟨#[100, 114, 111, 112]⟩, ⟨#[99, 97, 116]⟩, ⟨#[105, 110]⟩, ⟨#[97, 116]⟩, ⟨#[107, 101, 101, 112]⟩]
theorem hide {p : Prop} (h : p) : Hid p := h
theorem Ja {p : Prop} (h : Hid p) : p := h.out
theorem J0 {k : IntKind} {a b : Int} (h : a = b) : Ending.returned (.int k a) = .returned (.int k b) := by rw [h]
theorem Jr {W w1 : World} (hb : Below W.heap.size W w1) : (∀ b o, b < W.heap.size → w1.cell? ⟨b, o, none⟩ = W.cell? ⟨b, o, none⟩) ∧ (∀ b o, b < W.heap.size → w1.frozen? ⟨b, o, none⟩ = W.frozen? ⟨b, o, none⟩) :=
  ⟨fun b o h => hb.cell (p := ⟨b, o, none⟩) h, fun b o h => hb.frozen (p := ⟨b, o, none⟩) h⟩
def hd (t : ByteArray) : Int := (t.data.toList.headD 0).toNat
theorem Jow (t : ByteArray) (h : 0 < t.size) : (t[0].toNat : Int) = hd t := by
  obtain ⟨⟨l⟩⟩ := t
  match l, h with
  | c :: l, _ => rfl
theorem ne1 (t : ByteArray) (h : 0 < t.size) : t.toList.isEmpty = false := by
  rw [ByteArray.toList_eq]
  obtain ⟨⟨l⟩⟩ := t
  match l, h with
  | c :: l, _ => rfl
end Go.Proofs.YtjobgpahajhbnabGreatDoor
namespace Go.Proofs.YtjobgpahajhbnabGreatDoor
open Go.RowKit
def dU (c : UInt8) : Bool := digB c.toNat
def lU (c : UInt8) : Bool := letB c.toNat
def gU (c : UInt8) : Bool := sgnB c.toNat
def val (l : List UInt8) : Nat := l.foldl (fun n c => 10 * n + (c.toNat - 48)) 0
def isFn (t : List UInt8) : Bool := amid fnL ⟨t.toArray⟩
def numE (k : Nat) (l : List UInt8) : Option Nat :=
  let ds := l.takeWhile dU
  if 19 < ds.length ∨ ds.length = 0 ∨ 9223372036854775807 < val ds then none else some (k + ds.length)
def wrdE (l : List UInt8) : Option Nat :=
  let n := (l.takeWhile lU).length
  if 4 < n ∧ isFn (l.take n) = false then none else some n
def Vu (c : UInt8) : Bool := c == 47 || c == 92 || c == 46
def sgnE (r : List UInt8) : Nat := match r with
  | [] => 1
  | d :: _ => if Vu d then 2 else 1
def tl (l : List UInt8) : Option Nat := match l with
  | [] => none
  | c :: r => bif dU c then numE 0 (c :: r) else bif c == 95 then numE 1 r else bif lU c then wrdE (c :: r) else bif c == 40 || c == 41 then some 1 else bif gU c then some (sgnE r) else none
theorem Jdd {p : UInt8 → Bool} {l : List UInt8} {j : Nat} {c : UInt8} (h : l[j]? = some c) (ha : (l.take j).all p = true) (hc : p c = true) : (l.take (j + 1)).all p = true := by
  rw [List.take_add_one, h]
  simp [ha, hc]
theorem Ja6 {p : UInt8 → Bool} : ∀ {l : List UInt8} {j : Nat}, (l.take j).all p = true → (∀ c, l[j]? = some c → p c = false) → l.takeWhile p = l.take j
  | [], j, _, _ => by simp
  | c :: r, 0, _, h2 => by simp [List.takeWhile, h2 c rfl]
  | c :: r, j + 1, h1, h2 => by
    simp at h1
    simp only [List.takeWhile, h1.1, List.take_succ_cons]
    rw [Ja6 (l := r) (j := j) (by simpa using h1.2) (by simpa using h2)]
theorem Jil (s : ByteArray) (f j : Nat) (h : f + j < s.size) : (s.data.toList.drop f)[j]? = some (s[f + j]'h) := by
  rw [List.getElem?_drop]
  rw [List.getElem?_eq_getElem (by simpa using h)]
  rfl
theorem Kx (s : ByteArray) (a : Nat) (h : a < s.size) : s.data.toList.drop a = s[a] :: s.data.toList.drop (a + 1) := by
  rw [List.drop_eq_getElem_cons (by simpa using h)]
  rfl
theorem K9 (s : ByteArray) (f : Nat) : (s.data.toList.drop f).length = s.size - f := by
  rw [List.length_drop]; simp
theorem Jv (s : ByteArray) (a b : Nat) : (s.extract a b).data.toList = (s.data.toList.drop a).take (b - a) := by
  rw [ByteArray.data_extract, Array.toList_extract]
theorem Jeu {L : List ByteArray} {t u : ByteArray} (h : t.data.toList = u.data.toList) : amid L t = amid L u := by
  unfold amid
  simp only [ByteArray.toList_eq, h]
end Go.Proofs.YtjobgpahajhbnabGreatDoor
namespace Go.Proofs
def Tryz.lays137_ren : Go.Shelf.Ren := ⟨fun | 137 => 67 | 217 => 93 | 266 => 135 | n => n, fun | 9 => 9 | 5 => 5 | 3 => 3 | n => n, fun | n => n⟩
theorem Tryz.lays137 : Go.Proofs.Lays.n137 Tryz.prog Tryz.lays137_ren := {
  mixed := by kernel_rfl
  f137 := Tryz.func67.trans (congrArg some (by kernel_rfl))
  f217 := Tryz.func93.trans (congrArg some (by kernel_rfl))
  f266 := Tryz.func135.trans (congrArg some (by kernel_rfl))
  t3 := Tryz.underlying3
  a3 := Tryz.isAgg3
  z3 := Tryz.sizeOf3
  v3 := Tryz.zeroValue3
  t5 := Tryz.underlying5
  a5 := Tryz.isAgg5
  z5 := Tryz.sizeOf5
  v5 := Tryz.zeroValue5
  t9 := Tryz.underlying9
  a9 := Tryz.isAgg9
  z9 := Tryz.sizeOf9
  v9 := Tryz.zeroValue9 }
open Go.RowKit in
theorem Tryz.strings_IndexByte (s : ByteArray) (c : Int) (w : World) :
    Calls Tryz.prog 67 #[.string s, .int .u8 c] w fun e w' => e = .returned (.int .i64 (Lib.indexByte s.data.toList c.toNat.toUInt8)) ∧ w' = w := Any.strings_IndexByte Tryz.lays137 s c w
open Go.RowKit Go.Sort Go.Lib in
open Go.RowKit Go.Sort Go.Lib in
def Tryz.laysM316_ren : Go.Shelf.Ren := ⟨fun | 316 => 50 | n => n, fun | 9 => 9 | 3 => 3 | 4 => 4 | 37 => 153 | 0 => 0 | 127 => 154 | 5 => 5 | n => n, fun | n => n⟩
theorem Tryz.laysM316 : Go.Proofs.LaysM.n316 Tryz.prog Tryz.laysM316_ren := {
  mixed := by kernel_rfl
  f316 := Tryz.func50.trans (congrArg some (by kernel_rfl))
  t0 := Tryz.underlying0
  a0 := Tryz.isAgg0
  z0 := Tryz.sizeOf0
  v0 := Tryz.zeroValue0
  t3 := Tryz.underlying3
  a3 := Tryz.isAgg3
  z3 := Tryz.sizeOf3
  v3 := Tryz.zeroValue3
  t4 := Tryz.underlying4
  a4 := Tryz.isAgg4
  z4 := Tryz.sizeOf4
  v4 := Tryz.zeroValue4
  t9 := Tryz.underlying9
  a9 := Tryz.isAgg9
  z9 := Tryz.sizeOf9
  v9 := Tryz.zeroValue9
  t37 := Tryz.underlying153
  a37 := Tryz.isAgg153
  z37 := Tryz.sizeOf153
  v37 := Tryz.zeroValue153
  t127 := Tryz.underlying154
  a127 := Tryz.isAgg154
  z127 := Tryz.sizeOf154
  v127 := Tryz.zeroValue154
  t5 := Tryz.underlying5
  a5 := Tryz.isAgg5
  z5 := Tryz.sizeOf5
  v5 := Tryz.zeroValue5
  i0 := by kernel_rfl
  i3 := by kernel_rfl
  i4 := by kernel_rfl
  i5 := by kernel_rfl
  i9 := by kernel_rfl
  i37 := by kernel_rfl
  i127 := by kernel_rfl }
open Go.RowKit in
theorem Tryz.stringslite_Clone (s : ByteArray) (w : World) (hlim : s.size ≤ 281474976710656) :
    Calls Tryz.prog 50 #[.string s] w fun e w' => e = .returned (.string s) ∧ Below w.heap.size w w' := Any.stringslite_Clone Tryz.laysM316 s w hlim
def Tryz.laysC174_ren : Go.Shelf.Ren := ⟨fun | 174 => 91 | 247 => 133 | 245 => 134 | 287 => 189 | 279 => 190 | 280 => 191 | 281 => 192 | 282 => 193 | 321 => 206 | 322 => 207 | 316 => 50 | 171 => 209 | 205 => 208 | 243 => 215 | 246 => 62 | 283 => 86 | 284 => 87 | 285 => 88 | 286 => 89 | 129 => 61 | 317 => 129 | 318 => 130 | 319 => 131 | 320 => 132 | 337 => 187 | 338 => 188 | n => n, fun | 9 => 9 | 3 => 3 | 2 => 2 | 75 => 168 | 85 => 169 | 4 => 4 | 167 => 216 | 5 => 5 | 53 => 128 | 175 => 217 | 46 => 95 | 168 => 219 | 37 => 153 | 0 => 0 | 210 => 236 | 21 => 21 | 127 => 154 | 145 => 246 | 143 => 244 | 171 => 162 | 173 => 164 | 212 => 180 | 51 => 126 | 20 => 20 | 213 => 181 | 232 => 232 | 233 => 233 | 80 => 250 | n => n, fun | 15 => 4 | 16 => 5 | 17 => 0 | 18 => 2 | 19 => 3 | n => n⟩
theorem Tryz.laysC174 : Go.Proofs.LaysC.n174 Tryz.prog Tryz.laysC174_ren := {
  mixed := by kernel_rfl
  f129 := Tryz.func61.trans (congrArg some (by kernel_rfl))
  f171 := Tryz.func209.trans (congrArg some (by kernel_rfl))
  f174 := Tryz.func91.trans (congrArg some (by kernel_rfl))
  f205 := Tryz.func208.trans (congrArg some (by kernel_rfl))
  f243 := Tryz.func215.trans (congrArg some (by kernel_rfl))
  f245 := Tryz.func134.trans (congrArg some (by kernel_rfl))
  f246 := Tryz.func62.trans (congrArg some (by kernel_rfl))
  f247 := Tryz.func133.trans (congrArg some (by kernel_rfl))
  f279 := Tryz.func190.trans (congrArg some (by kernel_rfl))
  f280 := Tryz.func191.trans (congrArg some (by kernel_rfl))
  f281 := Tryz.func192.trans (congrArg some (by kernel_rfl))
  f282 := Tryz.func193.trans (congrArg some (by kernel_rfl))
  f283 := Tryz.func86.trans (congrArg some (by kernel_rfl))
  f284 := Tryz.func87.trans (congrArg some (by kernel_rfl))
  f285 := Tryz.func88.trans (congrArg some (by kernel_rfl))
  f286 := Tryz.func89.trans (congrArg some (by kernel_rfl))
  f287 := Tryz.func189.trans (congrArg some (by kernel_rfl))
  f316 := Tryz.func50.trans (congrArg some (by kernel_rfl))
  f317 := Tryz.func129.trans (congrArg some (by kernel_rfl))
  f318 := Tryz.func130.trans (congrArg some (by kernel_rfl))
  f319 := Tryz.func131.trans (congrArg some (by kernel_rfl))
  f320 := Tryz.func132.trans (congrArg some (by kernel_rfl))
  f321 := Tryz.func206.trans (congrArg some (by kernel_rfl))
  f322 := Tryz.func207.trans (congrArg some (by kernel_rfl))
  f337 := Tryz.func187.trans (congrArg some (by kernel_rfl))
  f338 := Tryz.func188.trans (congrArg some (by kernel_rfl))
  t0 := Tryz.underlying0
  a0 := Tryz.isAgg0
  z0 := Tryz.sizeOf0
  v0 := Tryz.zeroValue0
  t2 := Tryz.underlying2
  a2 := Tryz.isAgg2
  z2 := Tryz.sizeOf2
  v2 := Tryz.zeroValue2
  t3 := Tryz.underlying3
  a3 := Tryz.isAgg3
  z3 := Tryz.sizeOf3
  v3 := Tryz.zeroValue3
  t4 := Tryz.underlying4
  a4 := Tryz.isAgg4
  z4 := Tryz.sizeOf4
  v4 := Tryz.zeroValue4
  t5 := Tryz.underlying5
  a5 := Tryz.isAgg5
  z5 := Tryz.sizeOf5
  v5 := Tryz.zeroValue5
  t9 := Tryz.underlying9
  a9 := Tryz.isAgg9
  z9 := Tryz.sizeOf9
  v9 := Tryz.zeroValue9
  t20 := Tryz.underlying20
  a20 := Tryz.isAgg20
  z20 := Tryz.sizeOf20
  v20 := Tryz.zeroValue20
  t21 := Tryz.underlying21
  a21 := Tryz.isAgg21
  z21 := Tryz.sizeOf21
  v21 := Tryz.zeroValue21
  t37 := Tryz.underlying153
  a37 := Tryz.isAgg153
  z37 := Tryz.sizeOf153
  v37 := Tryz.zeroValue153
  t46 := Tryz.underlying95
  a46 := Tryz.isAgg95
  z46 := Tryz.sizeOf95
  v46 := Tryz.zeroValue95
  t51 := Tryz.underlying126
  a51 := Tryz.isAgg126
  z51 := Tryz.sizeOf126
  v51 := Tryz.zeroValue126
  t53 := Tryz.underlying128
  a53 := Tryz.isAgg128
  z53 := Tryz.sizeOf128
  v53 := Tryz.zeroValue128
  t75 := Tryz.underlying168
  a75 := Tryz.isAgg168
  z75 := Tryz.sizeOf168
  v75 := Tryz.zeroValue168
  t85 := Tryz.underlying169
  a85 := Tryz.isAgg169
  z85 := Tryz.sizeOf169
  v85 := Tryz.zeroValue169
  t127 := Tryz.underlying154
  a127 := Tryz.isAgg154
  z127 := Tryz.sizeOf154
  v127 := Tryz.zeroValue154
  t143 := Tryz.underlying244
  a143 := Tryz.isAgg244
  z143 := Tryz.sizeOf244
  v143 := Tryz.zeroValue244
  t145 := Tryz.underlying246
  a145 := Tryz.isAgg246
  z145 := Tryz.sizeOf246
  v145 := Tryz.zeroValue246
  t167 := Tryz.underlying216
  a167 := Tryz.isAgg216
  z167 := Tryz.sizeOf216
  v167 := Tryz.zeroValue216
  t168 := Tryz.underlying219
  a168 := Tryz.isAgg219
  z168 := Tryz.sizeOf219
  v168 := Tryz.zeroValue219
  t171 := Tryz.underlying162
  a171 := Tryz.isAgg162
  z171 := Tryz.sizeOf162
  v171 := Tryz.zeroValue162
  t173 := Tryz.underlying164
  a173 := Tryz.isAgg164
  z173 := Tryz.sizeOf164
  v173 := Tryz.zeroValue164
  t175 := Tryz.underlying217
  a175 := Tryz.isAgg217
  z175 := Tryz.sizeOf217
  v175 := Tryz.zeroValue217
  t210 := Tryz.underlying236
  a210 := Tryz.isAgg236
  z210 := Tryz.sizeOf236
  v210 := Tryz.zeroValue236
  t212 := Tryz.underlying180
  a212 := Tryz.isAgg180
  z212 := Tryz.sizeOf180
  v212 := Tryz.zeroValue180
  t213 := Tryz.underlying181
  a213 := Tryz.isAgg181
  z213 := Tryz.sizeOf181
  t232 := Tryz.underlying232
  a232 := Tryz.isAgg232
  z232 := Tryz.sizeOf232
  v232 := Tryz.zeroValue232
  t233 := Tryz.underlying233
  a233 := Tryz.isAgg233
  z233 := Tryz.sizeOf233
  v233 := Tryz.zeroValue233
  g15 := by kernel_rfl
  g16 := by kernel_rfl
  g17 := by kernel_rfl
  g18 := by kernel_rfl
  g19 := by kernel_rfl
  t80 := Tryz.underlying250
  a80 := Tryz.isAgg250
  z80 := Tryz.sizeOf250
  v80 := Tryz.zeroValue250
  i0 := by kernel_rfl
  i2 := by kernel_rfl
  i3 := by kernel_rfl
  i4 := by kernel_rfl
  i5 := by kernel_rfl
  i9 := by kernel_rfl
  i20 := by kernel_rfl
  i21 := by kernel_rfl
  i37 := by kernel_rfl
  i46 := by kernel_rfl
  i51 := by kernel_rfl
  i53 := by kernel_rfl
  i75 := by kernel_rfl
  i80 := by kernel_rfl
  i85 := by kernel_rfl
  i127 := by kernel_rfl
  i143 := by kernel_rfl
  i145 := by kernel_rfl
  i167 := by kernel_rfl
  i168 := by kernel_rfl
  i171 := by kernel_rfl
  i173 := by kernel_rfl
  i175 := by kernel_rfl
  i210 := by kernel_rfl
  i212 := by kernel_rfl
  i232 := by kernel_rfl
  i233 := by kernel_rfl
  m15 := by kernel_rfl
  m16 := by kernel_rfl
  m17 := by kernel_rfl
  m18 := by kernel_rfl
  m19 := by kernel_rfl
  c0 := by kernel_rfl
  c2 := by kernel_rfl
  c3 := by kernel_rfl
  c4 := by kernel_rfl
  c5 := by kernel_rfl
  c9 := by kernel_rfl
  c20 := by kernel_rfl
  c21 := by kernel_rfl
  c37 := by kernel_rfl
  c46 := by kernel_rfl
  c51 := by kernel_rfl
  c53 := by kernel_rfl
  c75 := by kernel_rfl
  c80 := by kernel_rfl
  c85 := by kernel_rfl
  c127 := by kernel_rfl
  c143 := by kernel_rfl
  c145 := by kernel_rfl
  c167 := by kernel_rfl
  c168 := by kernel_rfl
  c171 := by kernel_rfl
  c173 := by kernel_rfl
  c175 := by kernel_rfl
  c210 := by kernel_rfl
  c212 := by kernel_rfl
  c213 := by kernel_rfl
  c232 := by kernel_rfl
  c233 := by kernel_rfl }
open Go.RowKit in
theorem Tryz.strconv_ParseInt_10_at64_ok (s : ByteArray) (hmax : s.size ≤ 9223372036854775806) (v : Int) (h : Lib.parseIntB 64 s.data.toList = .ok v) (w : World) :
    Calls Tryz.prog 91 #[.string s, .int .i64 10, .int .i64 64] w fun e w' => e = .returned (.tuple #[.int .i64 v, .nilIface]) ∧ (w' = w ∨ ∃ t, w' = Lib.bytesWorld w 5 t) := Any.strconv_ParseInt_10_at64_ok Tryz.laysC174 s hmax v h w
def Tryz.lays144_ren : Go.Shelf.Ren := ⟨fun | 144 => 137 | 143 => 195 | 219 => 210 | 217 => 93 | 225 => 216 | 224 => 217 | 267 => 218 | 266 => 135 | 314 => 221 | n => n, fun | 9 => 9 | 4 => 4 | 3 => 3 | 5 => 5 | 46 => 95 | 146 => 238 | 51 => 126 | n => n, fun | 1 => 1 | n => n⟩
theorem Tryz.lays144 : Go.Proofs.Lays.n144 Tryz.prog Tryz.lays144_ren := {
  mixed := by kernel_rfl
  f143 := Tryz.func195.trans (congrArg some (by kernel_rfl))
  f144 := Tryz.func137.trans (congrArg some (by kernel_rfl))
  f217 := Tryz.func93.trans (congrArg some (by kernel_rfl))
  f219 := Tryz.func210.trans (congrArg some (by kernel_rfl))
  f224 := Tryz.func217.trans (congrArg some (by kernel_rfl))
  f225 := Tryz.func216.trans (congrArg some (by kernel_rfl))
  f266 := Tryz.func135.trans (congrArg some (by kernel_rfl))
  f267 := Tryz.func218.trans (congrArg some (by kernel_rfl))
  f314 := Tryz.func221.trans (congrArg some (by kernel_rfl))
  t3 := Tryz.underlying3
  a3 := Tryz.isAgg3
  z3 := Tryz.sizeOf3
  v3 := Tryz.zeroValue3
  t4 := Tryz.underlying4
  a4 := Tryz.isAgg4
  z4 := Tryz.sizeOf4
  v4 := Tryz.zeroValue4
  t5 := Tryz.underlying5
  a5 := Tryz.isAgg5
  z5 := Tryz.sizeOf5
  v5 := Tryz.zeroValue5
  t9 := Tryz.underlying9
  a9 := Tryz.isAgg9
  z9 := Tryz.sizeOf9
  v9 := Tryz.zeroValue9
  t46 := Tryz.underlying95
  a46 := Tryz.isAgg95
  z46 := Tryz.sizeOf95
  v46 := Tryz.zeroValue95
  t51 := Tryz.underlying126
  a51 := Tryz.isAgg126
  z51 := Tryz.sizeOf126
  v51 := Tryz.zeroValue126
  t146 := Tryz.underlying238
  a146 := Tryz.isAgg238
  z146 := Tryz.sizeOf238
  v146 := Tryz.zeroValue238
  g1 := by kernel_rfl }
open Go.RowKit Go.Lib in
theorem Tryz.strings_Contains_one (s : ByteArray) (c : UInt8) (w : World) :
    Calls Tryz.prog 137 #[.string s, .string ⟨#[c]⟩] w fun e w' => e = .returned (.bool (decide (0 ≤ Lib.indexByte s.data.toList c))) ∧ w' = w := Any.strings_Contains_one Tryz.lays144 s c w
def Tryz.lays100_ren : Go.Shelf.Ren := ⟨fun | 100 => 136 | 207 => 194 | n => n, fun | 9 => 9 | 4 => 4 | 3 => 3 | n => n, fun | n => n⟩
theorem Tryz.lays100 : Go.Proofs.Lays.n100 Tryz.prog Tryz.lays100_ren := {
  mixed := by kernel_rfl
  f100 := Tryz.func136.trans (congrArg some (by kernel_rfl))
  f207 := Tryz.func194.trans (congrArg some (by kernel_rfl))
  t3 := Tryz.underlying3
  a3 := Tryz.isAgg3
  z3 := Tryz.sizeOf3
  v3 := Tryz.zeroValue3
  t4 := Tryz.underlying4
  a4 := Tryz.isAgg4
  z4 := Tryz.sizeOf4
  v4 := Tryz.zeroValue4
  t9 := Tryz.underlying9
  a9 := Tryz.isAgg9
  z9 := Tryz.sizeOf9
  v9 := Tryz.zeroValue9 }
open Go.RowKit Go.Lib in
theorem Tryz.strings_HasSuffix (s p : ByteArray) (w : World) (hs : s.size ≤ 9223372036854775807) :
    Calls Tryz.prog 136 #[.string s, .string p] w fun e w' => e = .returned (.bool (Lib.hasSuffix s.data.toList p.data.toList)) ∧ w' = w := Any.strings_HasSuffix Tryz.lays100 s p w hs
def Tryz.lays212_ren : Go.Shelf.Ren := ⟨fun | 212 => 197 | 263 => 211 | 264 => 212 | n => n, fun | 46 => 95 | 51 => 126 | 146 => 238 | 53 => 128 | 148 => 240 | n => n, fun | n => n⟩
theorem Tryz.lays212 : Go.Proofs.Lays.n212 Tryz.prog Tryz.lays212_ren := {
  mixed := by kernel_rfl
  f212 := Tryz.func197.trans (congrArg some (by kernel_rfl))
  f263 := Tryz.func211.trans (congrArg some (by kernel_rfl))
  f264 := Tryz.func212.trans (congrArg some (by kernel_rfl))
  t46 := Tryz.underlying95
  a46 := Tryz.isAgg95
  z46 := Tryz.sizeOf95
  v46 := Tryz.zeroValue95
  t51 := Tryz.underlying126
  a51 := Tryz.isAgg126
  z51 := Tryz.sizeOf126
  v51 := Tryz.zeroValue126
  t53 := Tryz.underlying128
  a53 := Tryz.isAgg128
  z53 := Tryz.sizeOf128
  v53 := Tryz.zeroValue128
  t146 := Tryz.underlying238
  a146 := Tryz.isAgg238
  z146 := Tryz.sizeOf238
  v146 := Tryz.zeroValue238
  t148 := Tryz.underlying240
  a148 := Tryz.isAgg240
  z148 := Tryz.sizeOf240
  v148 := Tryz.zeroValue240 }
open Go.RowKit Go.Lib in
theorem Tryz.bits_Mul (x y : Nat) (hx : x < 18446744073709551616) (hy : y < 18446744073709551616) (w : World) :
    Calls Tryz.prog 197 #[.int .u64 x, .int .u64 y] w fun e w' => e = .returned (.tuple #[.int .u64 ((x * y / 18446744073709551616 : Nat) : Int), .int .u64 ((x * y % 18446744073709551616 : Nat) : Int)]) ∧ w' = w := Any.bits_Mul Tryz.lays212 x y hx hy w
def Tryz.lays111_ren : Go.Shelf.Ren := ⟨fun | 111 => 179 | n => n, fun | 28 => 31 | 3 => 3 | 4 => 4 | 0 => 0 | n => n, fun | n => n⟩
theorem Tryz.lays111 : Go.Proofs.Lays.n111 Tryz.prog Tryz.lays111_ren := {
  mixed := by kernel_rfl
  f111 := Tryz.func179.trans (congrArg some (by kernel_rfl))
  t0 := Tryz.underlying0
  a0 := Tryz.isAgg0
  z0 := Tryz.sizeOf0
  v0 := Tryz.zeroValue0
  t3 := Tryz.underlying3
  a3 := Tryz.isAgg3
  z3 := Tryz.sizeOf3
  v3 := Tryz.zeroValue3
  t4 := Tryz.underlying4
  a4 := Tryz.isAgg4
  z4 := Tryz.sizeOf4
  v4 := Tryz.zeroValue4
  t28 := Tryz.underlying31
  a28 := Tryz.isAgg31
  z28 := Tryz.sizeOf31
  v28 := Tryz.zeroValue31 }
open Go.RowKit Go.Lib in
theorem Tryz.slices_Equal_int (b1 o1 n c b2 o2 m d : Nat) (xs ys : List Int) (w : World) (hx : n ≤ xs.length) (hy : m ≤ ys.length) (hbig : n ≤ 9223372036854775807) (hbig2 : m ≤ 9223372036854775807) (hc1 : ∀ j, j < xs.length → w.cell? ⟨b1, o1 + j, none⟩ = some (.int .i64 (xs.getD j 0))) (hc2 : ∀ j, j < ys.length → w.cell? ⟨b2, o2 + j, none⟩ = some (.int .i64 (ys.getD j 0))) :
    Calls Tryz.prog 179 #[.slice (some ⟨b1, o1, none⟩) n c, .slice (some ⟨b2, o2, none⟩) m d] w fun e w' => e = .returned (.bool (xs.take n == ys.take m)) ∧ ∃ q, w' = w.drewN q := Any.slices_Equal_int Tryz.lays111 b1 o1 n c b2 o2 m d xs ys w hx hy hbig hbig2 hc1 hc2
open Go.RowKit Go.Lib in
theorem Tryz.slices_Equal_int_empty (a1 a2 : Option Addr) (c m d : Nat) (w : World) (hbig2 : m ≤ 9223372036854775807) :
    Calls Tryz.prog 179 #[.slice a1 0 c, .slice a2 m d] w fun e w' => e = .returned (.bool (decide (m = 0))) ∧ w' = w := Any.slices_Equal_int_empty Tryz.lays111 a1 a2 c m d w hbig2
def Tryz.laysSlE041_f79_ren : Go.Shelf.Ren := ⟨fun | 41 => 37 | n => n, fun | 22 => 31 | 23 => 3 | 4 => 4 | n => n, fun | n => n⟩
theorem Tryz.laysSlE041_f79 : Go.Proofs.SlLaysE0.n41 Tryz.prog Tryz.laysSlE041_f79_ren := {
  mixed := by kernel_rfl
  f41 := ⟨Tryz.f37.name, by decide, Tryz.func37.trans (congrArg some (by kernel_rfl))⟩
  t4 := Tryz.underlying4
  a4 := Tryz.isAgg4
  z4 := Tryz.sizeOf4
  v4 := Tryz.zeroValue4
  t22 := Tryz.underlying31
  a22 := Tryz.isAgg31
  z22 := Tryz.sizeOf31
  v22 := Tryz.zeroValue31 }
open Go.RowKit Go.Lib in
theorem Tryz.slices_Clone_f79 (i0 : TypeInfo) (z : Value) (size bytes : Nat) (hi : Tryz.prog.info? 3 = some i0) (hz0 : i0.zero = some z) (hz1 : i0.size = size) (hz2 : i0.bytes = bytes) (hzs : z.cells.size = size) (hsz : 0 < size) (z23 : ∀ w, (Go.sizeOf 3).run Tryz.prog w = .ok size w) (b off n c : Nat) (news : List Value) (w : World) (hl : news.length = n * size) (hn : n ≤ maxLen) (hbig : n * bytes ≤ 140737488355328) (hc : ∀ j u, news[j]? = some u → w.cell? ⟨b, off + j, none⟩ = some u) (h1 : ∀ u ∈ news, u.oneCell' = true) :
    Calls Tryz.prog 37 #[.slice (some ⟨b, off, none⟩) n c] w fun e w' => ∃ v', e = .returned v' ∧ w'.ownsRow w.heap.size 3 size v' n news ∧ v' ≠ .slice none 0 0 ∧ Below w.heap.size w w' := AnyE.slices_Clone Tryz.laysSlE041_f79 i0 z size bytes hi hz0 hz1 hz2 hzs hsz z23 b off n c news w hl hn hbig hc h1
def Tryz.laysSlE041_f80_ren : Go.Shelf.Ren := ⟨fun | 41 => 38 | n => n, fun | 22 => 32 | 23 => 2 | 4 => 4 | n => n, fun | n => n⟩
theorem Tryz.laysSlE041_f80 : Go.Proofs.SlLaysE0.n41 Tryz.prog Tryz.laysSlE041_f80_ren := {
  mixed := by kernel_rfl
  f41 := ⟨Tryz.f38.name, by decide, Tryz.func38.trans (congrArg some (by kernel_rfl))⟩
  t4 := Tryz.underlying4
  a4 := Tryz.isAgg4
  z4 := Tryz.sizeOf4
  v4 := Tryz.zeroValue4
  t22 := Tryz.underlying32
  a22 := Tryz.isAgg32
  z22 := Tryz.sizeOf32
  v22 := Tryz.zeroValue32 }
open Go.RowKit Go.Lib in
theorem Tryz.slices_Clone_f80 (i0 : TypeInfo) (z : Value) (size bytes : Nat) (hi : Tryz.prog.info? 2 = some i0) (hz0 : i0.zero = some z) (hz1 : i0.size = size) (hz2 : i0.bytes = bytes) (hzs : z.cells.size = size) (hsz : 0 < size) (z23 : ∀ w, (Go.sizeOf 2).run Tryz.prog w = .ok size w) (b off n c : Nat) (news : List Value) (w : World) (hl : news.length = n * size) (hn : n ≤ maxLen) (hbig : n * bytes ≤ 140737488355328) (hc : ∀ j u, news[j]? = some u → w.cell? ⟨b, off + j, none⟩ = some u) (h1 : ∀ u ∈ news, u.oneCell' = true) :
    Calls Tryz.prog 38 #[.slice (some ⟨b, off, none⟩) n c] w fun e w' => ∃ v', e = .returned v' ∧ w'.ownsRow w.heap.size 2 size v' n news ∧ v' ≠ .slice none 0 0 ∧ Below w.heap.size w w' := AnyE.slices_Clone Tryz.laysSlE041_f80 i0 z size bytes hi hz0 hz1 hz2 hzs hsz z23 b off n c news w hl hn hbig hc h1
open Go.RowKit Go.Lib in
theorem Tryz.slices_Clone_nil_f79 (n c : Nat) (w : World) :
    Calls Tryz.prog 37 #[.slice none n c] w fun e w' => e = .returned (.slice none 0 0) ∧ w' = w := AnyE.slices_Clone_nil Tryz.laysSlE041_f79 n c w
open Go.RowKit Go.Lib in
theorem Tryz.slices_Clone_nil_f80 (n c : Nat) (w : World) :
    Calls Tryz.prog 38 #[.slice none n c] w fun e w' => e = .returned (.slice none 0 0) ∧ w' = w := AnyE.slices_Clone_nil Tryz.laysSlE041_f80 n c w
open Go.RowKit in
theorem Tryz.strconv_ParseInt_10_at64_range (s : ByteArray) (hlim : s.size ≤ 281474976710656) (h : Lib.parseIntB 64 s.data.toList = .range) (ev : Value) (w : World) (hv : w.cell? ⟨5, 0, none⟩ = some ev) (hev : ev = .nilIface ∨ ∃ te pe, ev = .iface te pe) :
    Calls Tryz.prog 91 #[.string s, .int .i64 10, .int .i64 64] w fun e w' => ∃ v N, e = .returned (.tuple #[.int .i64 v, .iface 219 (.pointer (some ⟨N, 0, none⟩))]) ∧ Below w.heap.size w w' := by
  refine (Any.strconv_ParseInt_10_at64_range Tryz.laysC174 s hlim h ev w hv hev).mono ?_
  rintro e w' ⟨N, he, _, _, hb⟩
  exact ⟨_, N, he, hb⟩
open Go.RowKit in
theorem Tryz.strconv_ParseInt_10_at64_none (s : ByteArray) (h : s.size = 0) (ev : Value) (w : World) (hv : w.cell? ⟨4, 0, none⟩ = some ev) (hev : ev = .nilIface ∨ ∃ te pe, ev = .iface te pe) :
    Calls Tryz.prog 91 #[.string s, .int .i64 10, .int .i64 64] w fun e w' => ∃ v N, e = .returned (.tuple #[.int .i64 v, .iface 219 (.pointer (some ⟨N, 0, none⟩))]) ∧ Below w.heap.size w w' := by
  obtain ⟨⟨l⟩⟩ := s
  have hl : l = [] := List.length_eq_zero_iff.1 h
  subst hl
  refine (Any.strconv_ParseInt_10_at64_syntax Tryz.laysC174 ⟨#[]⟩ (by decide) rfl ev w hv hev).mono ?_
  rintro e w' ⟨N, he, _, _, hb⟩
  exact ⟨_, N, he, hb⟩
end Go.Proofs
namespace Go.Proofs.YtjobgpahajhbnabGreatDoor
open Go.RowKit
set_option maxHeartbeats 400000 in
theorem Ya (c : Int) (w : World) :
    Calls Tryz.prog 63 #[.int .u8 c] w fun e w' => e = .returned (.bool (digB c)) ∧ w' = w := by
  by_cases h : 48 ≤ c
  all_goals
    go_enter Tryz.func63, Tryz.ntmps63
    go_wp2
    go_ret
    refine ⟨?_, rfl⟩
    unfold digB
    congr 2
    simp; try omega
set_option maxHeartbeats 400000 in
theorem Jy (c : Int) (w : World) :
    Calls Tryz.prog 65 #[.int .u8 c] w fun e w' => e = .returned (.bool (letB c)) ∧ w' = w := by
  by_cases h : 97 ≤ c
  all_goals
    go_enter Tryz.func65, Tryz.ntmps65
    go_wp2
    go_ret
    refine ⟨?_, rfl⟩
    unfold letB
    congr 2
    simp; try omega
def Yk (t : ByteArray) : Int :=
  bif t.toList == [105, 111, 116, 97] then 1 else bif t.toList == [117, 112] then 1 else bif t.toList == [100, 111, 119, 110] then 1 else bif t.toList == [102, 108, 105, 112] then 1 else bif t.toList == [114, 97, 118, 101, 108] then 1 else bif t.toList == [114, 104, 111] then 3 else bif t.toList == [114, 101, 118] then 3 else bif t.toList == [116, 97, 107, 101] then 2 else bif t.toList == [100, 114, 111, 112] then 2 else bif t.toList == [99, 97, 116] then 2 else bif t.toList == [105, 110] then 2 else bif t.toList == [97, 116] then 2 else bif t.toList == [107, 101, 101, 112] then 2 else 0
set_option maxHeartbeats 1000000 in
theorem Kg (t : ByteArray) (w : World) :
    Calls Tryz.prog 92 #[.string t] w fun e w' => e = .returned (.int .i64 (Yk t)) ∧ w' = w := by
  cases h0 : (t.toList == [105, 111, 116, 97])
  rotate_left
  · have H0 := hide h0
    go_enter Tryz.func92, Tryz.ntmps92
    go_wp2_with fail
    go_ret
    exact ⟨J0 (by simp [Yk, Ja H0]), rfl⟩
  have H0 := hide h0
  cases h1 : (t.toList == [117, 112])
  rotate_left
  · have H1 := hide h1
    go_enter Tryz.func92, Tryz.ntmps92
    go_wp2_with fail
    go_ret
    exact ⟨J0 (by simp [Yk, Ja H0, Ja H1]), rfl⟩
  have H1 := hide h1
  cases h2 : (t.toList == [100, 111, 119, 110])
  rotate_left
  · have H2 := hide h2
    go_enter Tryz.func92, Tryz.ntmps92
    go_wp2_with fail
    go_ret
    exact ⟨J0 (by simp [Yk, Ja H0, Ja H1, Ja H2]), rfl⟩
  have H2 := hide h2
  cases h3 : (t.toList == [102, 108, 105, 112])
  rotate_left
  · have H3 := hide h3
    go_enter Tryz.func92, Tryz.ntmps92
    go_wp2_with fail
    go_ret
    exact ⟨J0 (by simp [Yk, Ja H0, Ja H1, Ja H2, Ja H3]), rfl⟩
  have H3 := hide h3
  cases h4 : (t.toList == [114, 97, 118, 101, 108])
  rotate_left
  · have H4 := hide h4
    go_enter Tryz.func92, Tryz.ntmps92
    go_wp2_with fail
    go_ret
    exact ⟨J0 (by simp [Yk, Ja H0, Ja H1, Ja H2, Ja H3, Ja H4]), rfl⟩
  have H4 := hide h4
  cases h5 : (t.toList == [114, 104, 111])
  rotate_left
  · have H5 := hide h5
    go_enter Tryz.func92, Tryz.ntmps92
    go_wp2_with fail
    go_ret
    exact ⟨J0 (by simp [Yk, Ja H0, Ja H1, Ja H2, Ja H3, Ja H4, Ja H5]), rfl⟩
  have H5 := hide h5
  cases h6 : (t.toList == [114, 101, 118])
  rotate_left
  · have H6 := hide h6
    go_enter Tryz.func92, Tryz.ntmps92
    go_wp2_with fail
    go_ret
    exact ⟨J0 (by simp [Yk, Ja H0, Ja H1, Ja H2, Ja H3, Ja H4, Ja H5, Ja H6]), rfl⟩
  have H6 := hide h6
  cases h7 : (t.toList == [116, 97, 107, 101])
  rotate_left
  · have H7 := hide h7
    go_enter Tryz.func92, Tryz.ntmps92
    go_wp2_with fail
    go_ret
    exact ⟨J0 (by simp [Yk, Ja H0, Ja H1, Ja H2, Ja H3, Ja H4, Ja H5, Ja H6, Ja H7]), rfl⟩
  have H7 := hide h7
  cases h8 : (t.toList == [100, 114, 111, 112])
  rotate_left
  · have H8 := hide h8
    go_enter Tryz.func92, Tryz.ntmps92
    go_wp2_with fail
    go_ret
    exact ⟨J0 (by simp [Yk, Ja H0, Ja H1, Ja H2, Ja H3, Ja H4, Ja H5, Ja H6, Ja H7, Ja H8]), rfl⟩
  have H8 := hide h8
  cases h9 : (t.toList == [99, 97, 116])
  rotate_left
  · have H9 := hide h9
    go_enter Tryz.func92, Tryz.ntmps92
    go_wp2_with fail
    go_ret
    exact ⟨J0 (by simp [Yk, Ja H0, Ja H1, Ja H2, Ja H3, Ja H4, Ja H5, Ja H6, Ja H7, Ja H8, Ja H9]), rfl⟩
  have H9 := hide h9
  cases h10 : (t.toList == [105, 110])
  rotate_left
  · have H10 := hide h10
    go_enter Tryz.func92, Tryz.ntmps92
    go_wp2_with fail
    go_ret
    exact ⟨J0 (by simp [Yk, Ja H0, Ja H1, Ja H2, Ja H3, Ja H4, Ja H5, Ja H6, Ja H7, Ja H8, Ja H9, Ja H10]), rfl⟩
  have H10 := hide h10
  cases h11 : (t.toList == [97, 116])
  rotate_left
  · have H11 := hide h11
    go_enter Tryz.func92, Tryz.ntmps92
    go_wp2_with fail
    go_ret
    exact ⟨J0 (by simp [Yk, Ja H0, Ja H1, Ja H2, Ja H3, Ja H4, Ja H5, Ja H6, Ja H7, Ja H8, Ja H9, Ja H10, Ja H11]), rfl⟩
  have H11 := hide h11
  cases h12 : (t.toList == [107, 101, 101, 112])
  rotate_left
  · have H12 := hide h12
    go_enter Tryz.func92, Tryz.ntmps92
    go_wp2_with fail
    go_ret
    exact ⟨J0 (by simp [Yk, Ja H0, Ja H1, Ja H2, Ja H3, Ja H4, Ja H5, Ja H6, Ja H7, Ja H8, Ja H9, Ja H10, Ja H11, Ja H12]), rfl⟩
  have H12 := hide h12
  go_enter Tryz.func92, Tryz.ntmps92
  go_wp2_with fail
  go_ret
  exact ⟨J0 (by simp [Yk, Ja H0, Ja H1, Ja H2, Ja H3, Ja H4, Ja H5, Ja H6, Ja H7, Ja H8, Ja H9, Ja H10, Ja H11, Ja H12]), rfl⟩
theorem Q7 (t : ByteArray) (k : Nat) (hk : k ≤ t.size) (ha : (t.data.toList.take k).all dU = true) (hs : ∀ c, t.data.toList[k]? = some c → dU c = false) : (k : Int) = (t.data.toList.takeWhile dU).length := by
  rw [Ja6 ha hs, List.length_take]
  have : t.data.toList.length = t.size := by simp
  omega
set_option maxHeartbeats 400000 in
theorem Qd (t : ByteArray) (w : World) (hs : t.size ≤ 200) :
    Calls Tryz.prog 90 #[.string t, .func (Fn.func 63) #[] #[]] w fun e w' => e = .returned (.int .i64 (t.data.toList.takeWhile dU).length) ∧ w' = w := by
  go_enter Tryz.func90, Tryz.ntmps90
  go_wp2_with fail
  go_loop [8] (fun i => ∃ k : Nat, k ≤ t.size ∧ i = .int .i64 k ∧ (t.data.toList.take k).all dU = true) (fun i => t.size - (intOf i).toNat)
  case atStart => exact ⟨0, Nat.zero_le _, rfl, by simp⟩
  case round =>
    obtain ⟨k, hk, rfl, hall⟩ := hrel
    have HA := hide hall
    clear hall
    by_cases hlt : k < t.size
    · have hat := Jil t 0 k (by omega)
      simp only [List.drop_zero, Nat.zero_add] at hat
      have HT := hide hat
      clear hat
      cases hg : digB ((t[k]'hlt).toNat : Int)
      · have HG := hide hg
        go_wp2_with (go_at_call 63; refine (Ya _ _).mono ?_; rintro e w' ⟨rfl, rfl⟩)
        go_ret
        exact ⟨J0 (Q7 t k hk (Ja HA) (by
          intro c hc
          rw [Ja HT] at hc
          injection hc with e
          subst e
          exact Ja HG)), rfl⟩
      · have HG := hide hg
        go_wp2_with (go_at_call 63; refine (Ya _ _).mono ?_; rintro e w' ⟨rfl, rfl⟩)
        go_round
        case rel => exact ⟨k + 1, by omega, by go_num, Jdd (Ja HT) (Ja HA) (Ja HG)⟩
        case measure => simp [intOf]; omega
    · have he : k = t.size := by omega
      have HE := hide he
      clear he
      go_wp2_with (go_at_call 63; refine (Ya _ _).mono ?_; rintro e w' ⟨rfl, rfl⟩)
      go_ret
      refine ⟨J0 ?_, rfl⟩
      rw [← Q7 t k hk (Ja HA) (by
          intro c hc
          rw [List.getElem?_eq_none (by have := Ja HE; simp; omega)] at hc
          cases hc)]
      rw [Ja HE]
theorem Q6 (t : ByteArray) (k : Nat) (hk : k ≤ t.size) (ha : (t.data.toList.take k).all lU = true) (hs : ∀ c, t.data.toList[k]? = some c → lU c = false) : (k : Int) = (t.data.toList.takeWhile lU).length := by
  rw [Ja6 ha hs, List.length_take]
  have : t.data.toList.length = t.size := by simp
  omega
set_option maxHeartbeats 400000 in
theorem F5 (t : ByteArray) (w : World) (hs : t.size ≤ 200) :
    Calls Tryz.prog 90 #[.string t, .func (Fn.func 65) #[] #[]] w fun e w' => e = .returned (.int .i64 (t.data.toList.takeWhile lU).length) ∧ w' = w := by
  go_enter Tryz.func90, Tryz.ntmps90
  go_wp2_with fail
  go_loop [8] (fun i => ∃ k : Nat, k ≤ t.size ∧ i = .int .i64 k ∧ (t.data.toList.take k).all lU = true) (fun i => t.size - (intOf i).toNat)
  case atStart => exact ⟨0, Nat.zero_le _, rfl, by simp⟩
  case round =>
    obtain ⟨k, hk, rfl, hall⟩ := hrel
    have HA := hide hall
    clear hall
    by_cases hlt : k < t.size
    · have hat := Jil t 0 k (by omega)
      simp only [List.drop_zero, Nat.zero_add] at hat
      have HT := hide hat
      clear hat
      cases hg : letB ((t[k]'hlt).toNat : Int)
      · have HG := hide hg
        go_wp2_with (go_at_call 65; refine (Jy _ _).mono ?_; rintro e w' ⟨rfl, rfl⟩)
        go_ret
        exact ⟨J0 (Q6 t k hk (Ja HA) (by
          intro c hc
          rw [Ja HT] at hc
          injection hc with e
          subst e
          exact Ja HG)), rfl⟩
      · have HG := hide hg
        go_wp2_with (go_at_call 65; refine (Jy _ _).mono ?_; rintro e w' ⟨rfl, rfl⟩)
        go_round
        case rel => exact ⟨k + 1, by omega, by go_num, Jdd (Ja HT) (Ja HA) (Ja HG)⟩
        case measure => simp [intOf]; omega
    · have he : k = t.size := by omega
      have HE := hide he
      clear he
      go_wp2_with (go_at_call 65; refine (Jy _ _).mono ?_; rintro e w' ⟨rfl, rfl⟩)
      go_ret
      refine ⟨J0 ?_, rfl⟩
      rw [← Q6 t k hk (Ja HA) (by
          intro c hc
          rw [List.getElem?_eq_none (by have := Ja HE; simp; omega)] at hc
          cases hc)]
      rw [Ja HE]
end Go.Proofs.YtjobgpahajhbnabGreatDoor
namespace Go.Proofs.YtjobgpahajhbnabGreatDoor
open Go.RowKit
theorem Jhj : ∀ (l : List UInt8) (c : UInt8), c ∈ l → 0 ≤ Lib.indexByte l c
  | b :: l, c, h => by
    unfold Lib.indexByte
    by_cases e : (b == c) = true
    · rw [if_pos e]; decide
    · rw [if_neg e]
      have hm : c ∈ l := by
        rcases List.mem_cons.1 h with h | h
        · exact absurd (beq_iff_eq.2 h.symm) e
        · exact h
      have := Jhj l c hm
      have h2 : ¬ (Lib.indexByte l c == -1) = true := by rw [beq_iff_eq]; omega
      rw [if_neg h2]; omega
theorem Jmk : ∀ (l : List UInt8) (c : UInt8), c ∉ l → Lib.indexByte l c = -1
  | [], _, _ => rfl
  | b :: l, c, h => by
    unfold Lib.indexByte
    have h1 : ¬ (b == c) = true := by
      intro e
      exact h (List.mem_cons.2 (Or.inl (beq_iff_eq.1 e).symm))
    rw [if_neg h1]
    have := Jmk l c (fun hm => h (List.mem_cons.2 (Or.inr hm)))
    rw [this]
    rfl
theorem Fd (c : UInt8) : ((c.toNat : Int).toNat.toUInt8) = c := by
  simp
theorem Jcf (c : UInt8) : Vu c = true ↔ c ∈ ([47, 92, 46] : List UInt8) := by
  simp [Vu, or_assoc]
theorem Jeg (c : UInt8) (w : World) (h : Vu c = true) :
    Calls Tryz.prog 67 #[.string ⟨#[47, 92, 46]⟩, .int .u8 c.toNat] w fun e w' => ∃ v : Int, 0 ≤ v ∧ e = .returned (.int .i64 v) ∧ w' = w := by
  refine (Tryz.strings_IndexByte _ _ w).mono ?_
  rintro e w' ⟨rfl, rfl⟩
  refine ⟨_, ?_, rfl, rfl⟩
  rw [Fd]
  exact Jhj _ _ ((Jcf c).1 h)
theorem Jhk (c : UInt8) (w : World) (h : Vu c = false) :
    Calls Tryz.prog 67 #[.string ⟨#[47, 92, 46]⟩, .int .u8 c.toNat] w fun e w' => e = .returned (.int .i64 (-1)) ∧ w' = w := by
  refine (Tryz.strings_IndexByte _ _ w).mono ?_
  rintro e w' ⟨rfl, rfl⟩
  refine ⟨J0 ?_, rfl⟩
  rw [Fd]
  exact Jmk _ _ (fun hm => by rw [(Jcf c).2 hm] at h; cases h)
theorem Jfl (c : UInt8) : gU c = true ↔ c ∈ ([43, 45, 42, 37, 124, 38, 33, 61, 60] : List UInt8) := by
  have e : ∀ n : Nat, n < 256 → (((c.toNat : Int) = (n : Int)) ↔ c = UInt8.ofNat n) := by
    intro n hn
    constructor
    · intro h
      apply UInt8.toNat_inj.1
      rw [UInt8.toNat_ofNat_of_lt' (by simpa using hn)]
      omega
    · intro h
      rw [h, UInt8.toNat_ofNat_of_lt' (by simpa using hn)]
  have e1 := e 43 (by decide)
  have e2 := e 45 (by decide)
  have e3 := e 42 (by decide)
  have e4 := e 37 (by decide)
  have e5 := e 124 (by decide)
  have e6 := e 38 (by decide)
  have e7 := e 33 (by decide)
  have e8 := e 61 (by decide)
  have e9 := e 60 (by decide)
  unfold gU sgnB
  rw [decide_eq_true_iff]
  simp only [List.mem_cons, List.not_mem_nil, or_false]
  exact (or_congr e1 (or_congr e2 (or_congr e3 (or_congr e4 (or_congr e5 (or_congr e6 (or_congr e7 (or_congr e8 e9))))))))
theorem Jhl (c : UInt8) (w : World) (h : gU c = true) :
    Calls Tryz.prog 67 #[.string ⟨#[43, 45, 42, 37, 124, 38, 33, 61, 60]⟩, .int .u8 c.toNat] w fun e w' => ∃ v : Int, 0 ≤ v ∧ e = .returned (.int .i64 v) ∧ w' = w := by
  refine (Tryz.strings_IndexByte _ _ w).mono ?_
  rintro e w' ⟨rfl, rfl⟩
  refine ⟨_, ?_, rfl, rfl⟩
  rw [Fd]
  exact Jhj _ _ ((Jfl c).1 h)
theorem Jki (c : UInt8) (w : World) (h : gU c = false) :
    Calls Tryz.prog 67 #[.string ⟨#[43, 45, 42, 37, 124, 38, 33, 61, 60]⟩, .int .u8 c.toNat] w fun e w' => e = .returned (.int .i64 (-1)) ∧ w' = w := by
  refine (Tryz.strings_IndexByte _ _ w).mono ?_
  rintro e w' ⟨rfl, rfl⟩
  refine ⟨J0 ?_, rfl⟩
  rw [Fd]
  exact Jmk _ _ (fun hm => by rw [(Jfl c).2 hm] at h; cases h)
def Gi (t : ByteArray) : Int :=
  bif Lib.hasSuffix t.data.toList [46] then 2 else bif decide (1 < t.size) then 1 else bif decide (0 ≤ Lib.indexByte [43, 45, 42, 124] (t.data.toList.headD 0)) then 3 else 2
set_option maxHeartbeats 400000 in
theorem Kh (t : ByteArray) (w : World) (h0 : 0 < t.size) (hs : t.size ≤ 200) :
    Calls Tryz.prog 94 #[.string t] w fun e w' => e = .returned (.int .i64 (Gi t)) ∧ w' = w := by
  cases hx : Lib.hasSuffix t.data.toList [46]
  · have HX := hide hx
    by_cases h1 : 1 < t.size
    · go_enter Tryz.func94, Tryz.ntmps94
      go_wp2_with fail
      refine (Tryz.strings_HasSuffix _ _ _ (by omega)).mono ?_
      rintro e w' ⟨rfl, rfl⟩
      go_wp2_with fail
      go_ret
      exact ⟨J0 (by simp [Gi, Ja HX, h1]), rfl⟩
    · obtain ⟨c, rfl⟩ : ∃ c, t = ⟨#[c]⟩ := by
        obtain ⟨⟨l⟩⟩ := t
        match l, h0, h1 with
        | [c], _, _ => exact ⟨c, rfl⟩
        | c :: d :: l, _, h1 => exact absurd (show 1 < (c :: d :: l).length by simp) h1
      cases hi : decide (0 ≤ Lib.indexByte [43, 45, 42, 124] c)
      all_goals
        have HI := hide hi
        go_enter Tryz.func94, Tryz.ntmps94
        go_wp2_with fail
        refine (Tryz.strings_HasSuffix _ _ _ (by omega)).mono ?_
        rintro e w' ⟨rfl, rfl⟩
        go_wp2_with fail
        refine (Tryz.strings_Contains_one _ _ _).mono ?_
        rintro e w' ⟨rfl, rfl⟩
        go_wp2_with fail
        go_ret
        refine ⟨J0 ?_, rfl⟩
        simp only [Gi]
        rw [Ja HX]
        simp [ByteArray.size, Ja HI]
  · have HX := hide hx
    go_enter Tryz.func94, Tryz.ntmps94
    go_wp2_with fail
    refine (Tryz.strings_HasSuffix _ _ _ (by omega)).mono ?_
    rintro e w' ⟨rfl, rfl⟩
    go_wp2_with fail
    go_ret
    exact ⟨J0 (by simp [Gi, Ja HX]), rfl⟩
end Go.Proofs.YtjobgpahajhbnabGreatDoor
namespace Go.Proofs.YtjobgpahajhbnabGreatDoor
open Go.RowKit
def tokX (k r x : Int) (t : ByteArray) (p : Int) : Value := .agg #[.int .i64 k, .int .i64 r, .int .i64 x, .string t, .int .i64 p]
structure Tok where
  k : Int
  r : Int
  x : Int
  t : ByteArray
  p : Nat
def Tok.v (q : Tok) : Value := tokX q.k q.r q.x q.t q.p
structure Rd (W0 : World) (tk : Value) (j o : Nat) (w : World) : Prop where
  below : Below W0.heap.size W0 w
  tok : w.cell? ⟨W0.heap.size, 0, none⟩ = some tk
  nxt : w.cell? ⟨W0.heap.size, 1, none⟩ = some (.int .i64 j)
  opn : w.cell? ⟨W0.heap.size, 2, none⟩ = some (.int .i64 o)
  fr1 : w.frozen? ⟨W0.heap.size, 1, none⟩ = false
  fr2 : w.frozen? ⟨W0.heap.size, 2, none⟩ = false
  lt : W0.heap.size < w.heap.size
structure TokIn (W0 : World) (ao : Option Addr) (tb : Nat) (S : List Tok) : Prop where
  few : S.length ≤ 200
  addr : 0 < S.length → ao = some ⟨tb, 0, none⟩ ∧ tb < W0.heap.size
  cell : ∀ i, (h : i < S.length) → W0.cell? ⟨tb, i * 5, none⟩ = some (.int .i64 S[i].k) ∧ W0.cell? ⟨tb, i * 5 + 1, none⟩ = some (.int .i64 S[i].r) ∧ W0.cell? ⟨tb, i * 5 + 2, none⟩ = some (.int .i64 S[i].x) ∧ W0.cell? ⟨tb, i * 5 + 3, none⟩ = some (.string S[i].t) ∧ W0.cell? ⟨tb, i * 5 + 4, none⟩ = some (.int .i64 S[i].p)
def kr (S : List Tok) : List (Int × Int) := S.map fun q => (q.k, q.r)
theorem Yq (S : List Tok) : (kr S).length = S.length := by simp [kr]
def Y1 (a b : Int) : Bool := bits BinOp.and IntKind.i64 a b != 0
def fB (T : List (Int × Int)) (j : Nat) (role : Int) : Bool := match T[j]? with
  | some q => Y1 q.2 role
  | none => false
def kB (T : List (Int × Int)) (j : Nat) (kind : Int) : Bool := match T[j]? with
  | some q => q.1 == kind
  | none => false
set_option maxHeartbeats 400000 in
theorem Jie (q : Tok) (role : Int) (B : Nat) (w : World) (hB : B < w.heap.size) (hc : w.cell? ⟨B, 0, none⟩ = some (.int .i64 role)) :
    Calls Tryz.prog 139 #[q.v, .pointer (some ⟨B, 0, none⟩)] w fun e w' => e = .returned (.bool (Y1 q.r role)) ∧ Below w.heap.size w w' := by
  obtain ⟨k, r, x, t, p⟩ := q
  unfold Tok.v tokX
  go_enter Tryz.func139, Tryz.ntmps139
  go_wp2
  go_ret
  exact ⟨rfl, (Below.refl _ _).alloc (Nat.le_refl _) _⟩
set_option maxHeartbeats 400000 in
theorem Jif (q : Tok) (kind : Int) (B : Nat) (w : World) (hB : B < w.heap.size) (hc : w.cell? ⟨B, 0, none⟩ = some (.int .i64 kind)) :
    Calls Tryz.prog 196 #[q.v, .pointer (some ⟨B, 0, none⟩)] w fun e w' => e = .returned (.bool (q.k == kind)) ∧ Below w.heap.size w w' := by
  obtain ⟨k, r, x, t, p⟩ := q
  unfold Tok.v tokX
  go_enter Tryz.func196, Tryz.ntmps196
  go_wp2
  go_ret
  exact ⟨rfl, (Below.refl _ _).alloc (Nat.le_refl _) _⟩
end Go.Proofs.YtjobgpahajhbnabGreatDoor
