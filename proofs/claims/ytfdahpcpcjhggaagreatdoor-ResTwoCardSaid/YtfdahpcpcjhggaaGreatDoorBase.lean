/- What serves all packages: rows of plain structs, names, lists in words, joined and parted. -/
import Derived.Shelf.Strings.Builder1
import Derived.Shelf.Small.Bits
import Derived.Shelf.Strconv.Itoa0
import Derived.Shelf.Strconv.Itoa1
import Derived.Shelf.LaysM
import Derived.Shelf.Strconv.Itoa2
import Derived.Shelf.Strconv.Itoa3
import Derived.Shelf.Strconv.Itoa4
import Derived.Shelf.Strconv.ParseIntEmpty
import Derived.Shelf.Strconv.Clone
import Derived.Shelf.Strconv.SyntaxError
import Derived.Shelf.LaysC
import Derived.Shelf.Strconv.ToError
import Derived.Shelf.Strconv.Lower
import Derived.Shelf.Strconv.ParseUint10
import Derived.Shelf.Strconv.ParseUint10Empty
import Derived.Shelf.Strconv.ParseUint10Any
import Derived.Shelf.Strconv.ParseInt10
import Derived.Shelf.Strconv.RangeError
import Derived.Shelf.Strconv.ToErrorRange
import Derived.Shelf.Strconv.ParseUintEmpty
import Derived.Shelf.Strconv.ParseUint10b64
import Derived.Shelf.Strconv.ParseUint10b32
import Derived.Shelf.Strconv.ParseUint10b16
import Derived.Shelf.Strconv.ParseUint10b8
import Derived.Shelf.Strconv.ParseUint10At
import Derived.Shelf.Strconv.ParseInt10At64
import Derived.Shelf.Strconv.ParseInt10At32
import Derived.Shelf.Strconv.ParseInt10At16
import Derived.Shelf.Strconv.ParseInt10At8
import Derived.Shelf.Strconv.ParseInt10All
import Derived.Shelf.Strconv.ParseIntPublic10
import Derived.Shelf.Strconv.ErrVarParseInt
import Derived.Shelf.Strings.Search1
import Derived.Shelf.Strings.Search2
import Derived.Shelf.Strings.Search3
import Derived.Shelf.Strings.Cut
import Derived.Shelf.Strings.Shaped
import Derived.Shelf.Unicode.Decode
import Derived.Shelf.Bits.Mul64
import Derived.Shelf.Unicode.DecodeSlow
import Derived.Shelf.Unicode.DecodeAny
import Derived.Test.YtfdahpcpcjhggaaGreatDoorProg
import Derived.RowKit
import Derived.WalkKit
import Derived.WalkLawsBesides
import Derived.WalkSpells
import Derived.BigQuiet
import Derived.Deep.QuietTactic
import Derived.Lib.Hide
import Derived.Lib.Strings
import Derived.Below
import Derived.LoopTactic
import Derived.Laws.OwnMore
import Derived.Deep.AppendLies
import Derived.RangeFuncRecord
import Derived.OwnWalk
import Derived.WideShapes
import Derived.Lib.Join
import Derived.RangeFuncIn
import Derived.RangeFuncCalls
import Derived.RangeFuncLeaves
import Derived.RangeFuncNested
import Derived.RangeFuncBound
import Derived.Shelf.Abstract
import Derived.Shelf.RegionOpen
import Derived.OwnWalkIn
import Derived.TacticsInMore
import Derived.LoopNIn
import Derived.LoopIn

/- The contracts of library functions that this program calls, each one application of the given library. -/
namespace Go.Proofs
open Go.Shelf
def Tryz.lays169_ren : Go.Shelf.Ren := ⟨fun | 169 => 34 | n => n, fun | 70 => 52 | 9 => 9 | 0 => 0 | 72 => 55 | 37 => 53 | 127 => 76 | 3 => 3 | 5 => 5 | n => n, fun | n => n⟩
theorem Tryz.lays169 : Go.Proofs.Lays.n169 Tryz.prog Tryz.lays169_ren := {
  mixed := by kernel_rfl
  f169 := Tryz.func34.trans (congrArg some (by kernel_rfl))
  t0 := Tryz.underlying0
  a0 := Tryz.isAgg0
  z0 := Tryz.sizeOf0
  v0 := Tryz.zeroValue0
  t3 := Tryz.underlying3
  a3 := Tryz.isAgg3
  z3 := Tryz.sizeOf3
  v3 := Tryz.zeroValue3
  t9 := Tryz.underlying9
  a9 := Tryz.isAgg9
  z9 := Tryz.sizeOf9
  v9 := Tryz.zeroValue9
  t37 := Tryz.underlying53
  a37 := Tryz.isAgg53
  z37 := Tryz.sizeOf53
  v37 := Tryz.zeroValue53
  t70 := Tryz.underlying52
  a70 := Tryz.isAgg52
  z70 := Tryz.sizeOf52
  v70 := Tryz.zeroValue52
  t72 := Tryz.underlying55
  a72 := Tryz.isAgg55
  z72 := Tryz.sizeOf55
  v72 := Tryz.zeroValue55
  t127 := Tryz.underlying76
  a127 := Tryz.isAgg76
  z127 := Tryz.sizeOf76
  v127 := Tryz.zeroValue76 }
theorem Tryz.Builder_Extra_169 : Builder.Extra Tryz.prog Tryz.lays169_ren := {
  sizeBuilder := by kernel_rfl
  liesBuilder := by kernel_rfl
  t5 := Tryz.underlying5
  a5 := Tryz.isAgg5
  z5 := Tryz.sizeOf5
  v5 := Tryz.zeroValue5
  infoByte := by kernel_rfl
  cellsByte := by kernel_rfl
  sizeByte := by kernel_rfl
  neB5 := by decide }
open Go.RowKit in
theorem Tryz.Builder_String_any (B b : Nat) (l : List UInt8) (w : World) (h : Lib.IsBuilder 55 5 B b (Lib.byteCells l) w) (hBw : B ≤ w.heap.size) :
    Calls Tryz.prog 34 #[.pointer (some ⟨b, 0, none⟩)] w fun e w' => e = .returned (.string ⟨l.toArray⟩) ∧ Below B w w' := Any.Builder_String_any Tryz.lays169 Tryz.Builder_Extra_169 B b l w h hBw
def Tryz.lays134_ren : Go.Shelf.Ren := ⟨fun | 134 => 88 | 129 => 84 | n => n, fun | 53 => 84 | 3 => 3 | 4 => 4 | 46 => 104 | 5 => 5 | 9 => 9 | n => n, fun | n => n⟩
theorem Tryz.lays134 : Go.Proofs.Lays.n134 Tryz.prog Tryz.lays134_ren := {
  mixed := by kernel_rfl
  f129 := Tryz.func84.trans (congrArg some (by kernel_rfl))
  f134 := Tryz.func88.trans (congrArg some (by kernel_rfl))
  t3 := Tryz.underlying3
  a3 := Tryz.isAgg3
  z3 := Tryz.sizeOf3
  v3 := Tryz.zeroValue3
  t4 := Tryz.underlying4
  a4 := Tryz.isAgg4
  z4 := Tryz.sizeOf4
  v4 := Tryz.zeroValue4
  t5 := Tryz.underlying5
  a5 := Tryz.isAgg5
  z5 := Tryz.sizeOf5
  v5 := Tryz.zeroValue5
  t9 := Tryz.underlying9
  a9 := Tryz.isAgg9
  z9 := Tryz.sizeOf9
  v9 := Tryz.zeroValue9
  t46 := Tryz.underlying104
  a46 := Tryz.isAgg104
  z46 := Tryz.sizeOf104
  v46 := Tryz.zeroValue104
  t53 := Tryz.underlying84
  a53 := Tryz.isAgg84
  z53 := Tryz.sizeOf84
  v53 := Tryz.zeroValue84 }
theorem Tryz.bits_LeadingZeros64 (x : Int) (w : World) (h0 : 0 ≤ x) (h1 : x ≤ 18446744073709551615) :
    Calls Tryz.prog 88 #[.int .u64 x] w fun e w' => e = .returned (.int .i64 (64 - (Lib.bitLen x.toNat : Int))) ∧ w' = w := Any.bits_LeadingZeros64 Tryz.lays134 x w h0 h1
def Tryz.laysM173_ren : Go.Shelf.Ren := ⟨fun | 173 => 33 | 246 => 60 | 283 => 73 | 284 => 74 | 285 => 75 | 286 => 76 | 129 => 84 | 317 => 83 | 318 => 85 | 319 => 86 | 320 => 87 | 337 => 96 | 338 => 97 | n => n, fun | 2 => 2 | 3 => 3 | 9 => 9 | 4 => 4 | 171 => 99 | 0 => 0 | 53 => 84 | 37 => 53 | 5 => 5 | 173 => 102 | 212 => 114 | 51 => 115 | 20 => 20 | 213 => 116 | 46 => 104 | 232 => 130 | 233 => 131 | n => n, fun | 17 => 0 | 18 => 3 | 19 => 4 | n => n⟩
theorem Tryz.laysM173 : Go.Proofs.LaysM.n173 Tryz.prog Tryz.laysM173_ren := {
  mixed := by kernel_rfl
  f129 := Tryz.func84.trans (congrArg some (by kernel_rfl))
  f173 := Tryz.func33.trans (congrArg some (by kernel_rfl))
  f246 := Tryz.func60.trans (congrArg some (by kernel_rfl))
  f283 := Tryz.func73.trans (congrArg some (by kernel_rfl))
  f284 := Tryz.func74.trans (congrArg some (by kernel_rfl))
  f285 := Tryz.func75.trans (congrArg some (by kernel_rfl))
  f286 := Tryz.func76.trans (congrArg some (by kernel_rfl))
  f317 := Tryz.func83.trans (congrArg some (by kernel_rfl))
  f318 := Tryz.func85.trans (congrArg some (by kernel_rfl))
  f319 := Tryz.func86.trans (congrArg some (by kernel_rfl))
  f320 := Tryz.func87.trans (congrArg some (by kernel_rfl))
  f337 := Tryz.func96.trans (congrArg some (by kernel_rfl))
  f338 := Tryz.func97.trans (congrArg some (by kernel_rfl))
  t0 := Tryz.underlying0
  a0 := Tryz.isAgg0
  z0 := Tryz.sizeOf0
  v0 := Tryz.zeroValue0
  t2 := Tryz.underlying2
  a2 := Tryz.isAgg2
  z2 := Tryz.sizeOf2
  v2 := Tryz.zeroValue2
  t3 := Tryz.underlying3
  a3 := Tryz.isAgg3
  z3 := Tryz.sizeOf3
  v3 := Tryz.zeroValue3
  t4 := Tryz.underlying4
  a4 := Tryz.isAgg4
  z4 := Tryz.sizeOf4
  v4 := Tryz.zeroValue4
  t5 := Tryz.underlying5
  a5 := Tryz.isAgg5
  z5 := Tryz.sizeOf5
  v5 := Tryz.zeroValue5
  t9 := Tryz.underlying9
  a9 := Tryz.isAgg9
  z9 := Tryz.sizeOf9
  v9 := Tryz.zeroValue9
  t20 := Tryz.underlying20
  a20 := Tryz.isAgg20
  z20 := Tryz.sizeOf20
  v20 := Tryz.zeroValue20
  t37 := Tryz.underlying53
  a37 := Tryz.isAgg53
  z37 := Tryz.sizeOf53
  v37 := Tryz.zeroValue53
  t46 := Tryz.underlying104
  a46 := Tryz.isAgg104
  z46 := Tryz.sizeOf104
  v46 := Tryz.zeroValue104
  t51 := Tryz.underlying115
  a51 := Tryz.isAgg115
  z51 := Tryz.sizeOf115
  v51 := Tryz.zeroValue115
  t53 := Tryz.underlying84
  a53 := Tryz.isAgg84
  z53 := Tryz.sizeOf84
  v53 := Tryz.zeroValue84
  t171 := Tryz.underlying99
  a171 := Tryz.isAgg99
  z171 := Tryz.sizeOf99
  v171 := Tryz.zeroValue99
  t173 := Tryz.underlying102
  a173 := Tryz.isAgg102
  z173 := Tryz.sizeOf102
  v173 := Tryz.zeroValue102
  t212 := Tryz.underlying114
  a212 := Tryz.isAgg114
  z212 := Tryz.sizeOf114
  v212 := Tryz.zeroValue114
  t213 := Tryz.underlying116
  a213 := Tryz.isAgg116
  z213 := Tryz.sizeOf116
  t232 := Tryz.underlying130
  a232 := Tryz.isAgg130
  z232 := Tryz.sizeOf130
  v232 := Tryz.zeroValue130
  t233 := Tryz.underlying131
  a233 := Tryz.isAgg131
  z233 := Tryz.sizeOf131
  v233 := Tryz.zeroValue131
  g17 := by kernel_rfl
  g18 := by kernel_rfl
  g19 := by kernel_rfl
  i0 := by kernel_rfl
  i2 := by kernel_rfl
  i3 := by kernel_rfl
  i4 := by kernel_rfl
  i5 := by kernel_rfl
  i9 := by kernel_rfl
  i20 := by kernel_rfl
  i37 := by kernel_rfl
  i46 := by kernel_rfl
  i51 := by kernel_rfl
  i53 := by kernel_rfl
  i171 := by kernel_rfl
  i173 := by kernel_rfl
  i212 := by kernel_rfl
  i232 := by kernel_rfl
  i233 := by kernel_rfl
  m17 := by kernel_rfl
  m18 := by kernel_rfl
  m19 := by kernel_rfl }
open Go.RowKit Go.Sort Go.Lib in
theorem Tryz.strconv_FormatInt_10 (n : Int) (h0 : -9223372036854775808 ≤ n) (h1 : n ≤ 9223372036854775807) (w : World) (htab : Lib.TabIs Tryz.prog w "internal/strconv.uint64pow10" .u64 Lib.pow10Tab) :
    Calls Tryz.prog 33 #[.int .i64 n, .int .i64 10] w fun e w' => e = .returned (.string ⟨(Lib.itoa n).toArray⟩) ∧ ∃ k os, w' = grow (w.drewN k) os := Any.strconv_FormatInt_10 Tryz.laysM173 n h0 h1 w htab
def Tryz.laysM316_ren : Go.Shelf.Ren := ⟨fun | 316 => 95 | n => n, fun | 9 => 9 | 3 => 3 | 4 => 4 | 37 => 53 | 0 => 0 | 127 => 76 | 5 => 5 | n => n, fun | n => n⟩
theorem Tryz.laysM316 : Go.Proofs.LaysM.n316 Tryz.prog Tryz.laysM316_ren := {
  mixed := by kernel_rfl
  f316 := Tryz.func95.trans (congrArg some (by kernel_rfl))
  t0 := Tryz.underlying0
  a0 := Tryz.isAgg0
  z0 := Tryz.sizeOf0
  v0 := Tryz.zeroValue0
  t3 := Tryz.underlying3
  a3 := Tryz.isAgg3
  z3 := Tryz.sizeOf3
  v3 := Tryz.zeroValue3
  t4 := Tryz.underlying4
  a4 := Tryz.isAgg4
  z4 := Tryz.sizeOf4
  v4 := Tryz.zeroValue4
  t9 := Tryz.underlying9
  a9 := Tryz.isAgg9
  z9 := Tryz.sizeOf9
  v9 := Tryz.zeroValue9
  t37 := Tryz.underlying53
  a37 := Tryz.isAgg53
  z37 := Tryz.sizeOf53
  v37 := Tryz.zeroValue53
  t127 := Tryz.underlying76
  a127 := Tryz.isAgg76
  z127 := Tryz.sizeOf76
  v127 := Tryz.zeroValue76
  t5 := Tryz.underlying5
  a5 := Tryz.isAgg5
  z5 := Tryz.sizeOf5
  v5 := Tryz.zeroValue5
  i0 := by kernel_rfl
  i3 := by kernel_rfl
  i4 := by kernel_rfl
  i5 := by kernel_rfl
  i9 := by kernel_rfl
  i37 := by kernel_rfl
  i127 := by kernel_rfl }
open Go.RowKit in
theorem Tryz.stringslite_Clone (s : ByteArray) (w : World) (hlim : s.size ≤ 281474976710656) :
    Calls Tryz.prog 95 #[.string s] w fun e w' => e = .returned (.string s) ∧ Below w.heap.size w w' := Any.stringslite_Clone Tryz.laysM316 s w hlim
def Tryz.laysC174_ren : Go.Shelf.Ren := ⟨fun | 174 => 81 | 247 => 93 | 245 => 94 | 287 => 100 | 279 => 101 | 280 => 102 | 281 => 103 | 282 => 104 | 321 => 109 | 322 => 110 | 316 => 95 | 171 => 112 | 205 => 111 | 243 => 115 | 246 => 60 | 283 => 73 | 284 => 74 | 285 => 75 | 286 => 76 | 129 => 84 | 317 => 83 | 318 => 85 | 319 => 86 | 320 => 87 | 337 => 96 | 338 => 97 | n => n, fun | 9 => 9 | 3 => 3 | 2 => 2 | 75 => 57 | 85 => 109 | 4 => 4 | 167 => 124 | 5 => 5 | 53 => 84 | 175 => 125 | 46 => 104 | 168 => 127 | 37 => 53 | 0 => 0 | 210 => 139 | 21 => 21 | 127 => 76 | 145 => 145 | 143 => 143 | 171 => 99 | 173 => 102 | 212 => 114 | 51 => 115 | 20 => 20 | 213 => 116 | 232 => 130 | 233 => 131 | 80 => 61 | n => n, fun | 15 => 8 | 16 => 9 | 17 => 0 | 18 => 3 | 19 => 4 | n => n⟩
theorem Tryz.laysC174 : Go.Proofs.LaysC.n174 Tryz.prog Tryz.laysC174_ren := {
  mixed := by kernel_rfl
  f129 := Tryz.func84.trans (congrArg some (by kernel_rfl))
  f171 := Tryz.func112.trans (congrArg some (by kernel_rfl))
  f174 := Tryz.func81.trans (congrArg some (by kernel_rfl))
  f205 := Tryz.func111.trans (congrArg some (by kernel_rfl))
  f243 := Tryz.func115.trans (congrArg some (by kernel_rfl))
  f245 := Tryz.func94.trans (congrArg some (by kernel_rfl))
  f246 := Tryz.func60.trans (congrArg some (by kernel_rfl))
  f247 := Tryz.func93.trans (congrArg some (by kernel_rfl))
  f279 := Tryz.func101.trans (congrArg some (by kernel_rfl))
  f280 := Tryz.func102.trans (congrArg some (by kernel_rfl))
  f281 := Tryz.func103.trans (congrArg some (by kernel_rfl))
  f282 := Tryz.func104.trans (congrArg some (by kernel_rfl))
  f283 := Tryz.func73.trans (congrArg some (by kernel_rfl))
  f284 := Tryz.func74.trans (congrArg some (by kernel_rfl))
  f285 := Tryz.func75.trans (congrArg some (by kernel_rfl))
  f286 := Tryz.func76.trans (congrArg some (by kernel_rfl))
  f287 := Tryz.func100.trans (congrArg some (by kernel_rfl))
  f316 := Tryz.func95.trans (congrArg some (by kernel_rfl))
  f317 := Tryz.func83.trans (congrArg some (by kernel_rfl))
  f318 := Tryz.func85.trans (congrArg some (by kernel_rfl))
  f319 := Tryz.func86.trans (congrArg some (by kernel_rfl))
  f320 := Tryz.func87.trans (congrArg some (by kernel_rfl))
  f321 := Tryz.func109.trans (congrArg some (by kernel_rfl))
  f322 := Tryz.func110.trans (congrArg some (by kernel_rfl))
  f337 := Tryz.func96.trans (congrArg some (by kernel_rfl))
  f338 := Tryz.func97.trans (congrArg some (by kernel_rfl))
  t0 := Tryz.underlying0
  a0 := Tryz.isAgg0
  z0 := Tryz.sizeOf0
  v0 := Tryz.zeroValue0
  t2 := Tryz.underlying2
  a2 := Tryz.isAgg2
  z2 := Tryz.sizeOf2
  v2 := Tryz.zeroValue2
  t3 := Tryz.underlying3
  a3 := Tryz.isAgg3
  z3 := Tryz.sizeOf3
  v3 := Tryz.zeroValue3
  t4 := Tryz.underlying4
  a4 := Tryz.isAgg4
  z4 := Tryz.sizeOf4
  v4 := Tryz.zeroValue4
  t5 := Tryz.underlying5
  a5 := Tryz.isAgg5
  z5 := Tryz.sizeOf5
  v5 := Tryz.zeroValue5
  t9 := Tryz.underlying9
  a9 := Tryz.isAgg9
  z9 := Tryz.sizeOf9
  v9 := Tryz.zeroValue9
  t20 := Tryz.underlying20
  a20 := Tryz.isAgg20
  z20 := Tryz.sizeOf20
  v20 := Tryz.zeroValue20
  t21 := Tryz.underlying21
  a21 := Tryz.isAgg21
  z21 := Tryz.sizeOf21
  v21 := Tryz.zeroValue21
  t37 := Tryz.underlying53
  a37 := Tryz.isAgg53
  z37 := Tryz.sizeOf53
  v37 := Tryz.zeroValue53
  t46 := Tryz.underlying104
  a46 := Tryz.isAgg104
  z46 := Tryz.sizeOf104
  v46 := Tryz.zeroValue104
  t51 := Tryz.underlying115
  a51 := Tryz.isAgg115
  z51 := Tryz.sizeOf115
  v51 := Tryz.zeroValue115
  t53 := Tryz.underlying84
  a53 := Tryz.isAgg84
  z53 := Tryz.sizeOf84
  v53 := Tryz.zeroValue84
  t75 := Tryz.underlying57
  a75 := Tryz.isAgg57
  z75 := Tryz.sizeOf57
  v75 := Tryz.zeroValue57
  t85 := Tryz.underlying109
  a85 := Tryz.isAgg109
  z85 := Tryz.sizeOf109
  v85 := Tryz.zeroValue109
  t127 := Tryz.underlying76
  a127 := Tryz.isAgg76
  z127 := Tryz.sizeOf76
  v127 := Tryz.zeroValue76
  t143 := Tryz.underlying143
  a143 := Tryz.isAgg143
  z143 := Tryz.sizeOf143
  v143 := Tryz.zeroValue143
  t145 := Tryz.underlying145
  a145 := Tryz.isAgg145
  z145 := Tryz.sizeOf145
  v145 := Tryz.zeroValue145
  t167 := Tryz.underlying124
  a167 := Tryz.isAgg124
  z167 := Tryz.sizeOf124
  v167 := Tryz.zeroValue124
  t168 := Tryz.underlying127
  a168 := Tryz.isAgg127
  z168 := Tryz.sizeOf127
  v168 := Tryz.zeroValue127
  t171 := Tryz.underlying99
  a171 := Tryz.isAgg99
  z171 := Tryz.sizeOf99
  v171 := Tryz.zeroValue99
  t173 := Tryz.underlying102
  a173 := Tryz.isAgg102
  z173 := Tryz.sizeOf102
  v173 := Tryz.zeroValue102
  t175 := Tryz.underlying125
  a175 := Tryz.isAgg125
  z175 := Tryz.sizeOf125
  v175 := Tryz.zeroValue125
  t210 := Tryz.underlying139
  a210 := Tryz.isAgg139
  z210 := Tryz.sizeOf139
  v210 := Tryz.zeroValue139
  t212 := Tryz.underlying114
  a212 := Tryz.isAgg114
  z212 := Tryz.sizeOf114
  v212 := Tryz.zeroValue114
  t213 := Tryz.underlying116
  a213 := Tryz.isAgg116
  z213 := Tryz.sizeOf116
  t232 := Tryz.underlying130
  a232 := Tryz.isAgg130
  z232 := Tryz.sizeOf130
  v232 := Tryz.zeroValue130
  t233 := Tryz.underlying131
  a233 := Tryz.isAgg131
  z233 := Tryz.sizeOf131
  v233 := Tryz.zeroValue131
  g15 := by kernel_rfl
  g16 := by kernel_rfl
  g17 := by kernel_rfl
  g18 := by kernel_rfl
  g19 := by kernel_rfl
  t80 := Tryz.underlying61
  a80 := Tryz.isAgg61
  z80 := Tryz.sizeOf61
  v80 := Tryz.zeroValue61
  i0 := by kernel_rfl
  i2 := by kernel_rfl
  i3 := by kernel_rfl
  i4 := by kernel_rfl
  i5 := by kernel_rfl
  i9 := by kernel_rfl
  i20 := by kernel_rfl
  i21 := by kernel_rfl
  i37 := by kernel_rfl
  i46 := by kernel_rfl
  i51 := by kernel_rfl
  i53 := by kernel_rfl
  i75 := by kernel_rfl
  i80 := by kernel_rfl
  i85 := by kernel_rfl
  i127 := by kernel_rfl
  i143 := by kernel_rfl
  i145 := by kernel_rfl
  i167 := by kernel_rfl
  i168 := by kernel_rfl
  i171 := by kernel_rfl
  i173 := by kernel_rfl
  i175 := by kernel_rfl
  i210 := by kernel_rfl
  i212 := by kernel_rfl
  i232 := by kernel_rfl
  i233 := by kernel_rfl
  m15 := by kernel_rfl
  m16 := by kernel_rfl
  m17 := by kernel_rfl
  m18 := by kernel_rfl
  m19 := by kernel_rfl
  c0 := by kernel_rfl
  c2 := by kernel_rfl
  c3 := by kernel_rfl
  c4 := by kernel_rfl
  c5 := by kernel_rfl
  c9 := by kernel_rfl
  c20 := by kernel_rfl
  c21 := by kernel_rfl
  c37 := by kernel_rfl
  c46 := by kernel_rfl
  c51 := by kernel_rfl
  c53 := by kernel_rfl
  c75 := by kernel_rfl
  c80 := by kernel_rfl
  c85 := by kernel_rfl
  c127 := by kernel_rfl
  c143 := by kernel_rfl
  c145 := by kernel_rfl
  c167 := by kernel_rfl
  c168 := by kernel_rfl
  c171 := by kernel_rfl
  c173 := by kernel_rfl
  c175 := by kernel_rfl
  c210 := by kernel_rfl
  c212 := by kernel_rfl
  c213 := by kernel_rfl
  c232 := by kernel_rfl
  c233 := by kernel_rfl }
open Go.RowKit in
theorem Tryz.strconv_ParseInt_10_at64_ok (s : ByteArray) (hmax : s.size ≤ 9223372036854775806) (v : Int) (h : Lib.parseIntB 64 s.data.toList = .ok v) (w : World) :
    Calls Tryz.prog 81 #[.string s, .int .i64 10, .int .i64 64] w fun e w' => e = .returned (.tuple #[.int .i64 v, .nilIface]) ∧ (w' = w ∨ ∃ t, w' = Lib.bytesWorld w 5 t) := Any.strconv_ParseInt_10_at64_ok Tryz.laysC174 s hmax v h w
open Go.RowKit in
theorem Tryz.strconv_ParseInt_10_at64_range (s : ByteArray) (hlim : s.size ≤ 281474976710656) (h : Lib.parseIntB 64 s.data.toList = .range) (ev : Value) (w : World) (hv : w.cell? ⟨9, 0, none⟩ = some ev) (hev : ev = .nilIface ∨ ∃ te pe, ev = .iface te pe) :
    Calls Tryz.prog 81 #[.string s, .int .i64 10, .int .i64 64] w fun e w' => ∃ N, e = .returned (.tuple #[.int .i64 (Lib.intSat 64 s.data.toList), .iface 127 (.pointer (some ⟨N, 0, none⟩))]) ∧ w.heap.size ≤ N ∧ w'.heap[N]? = some (.cells #[.string ⟨#[80, 97, 114, 115, 101, 73, 110, 116]⟩, .string s, ev] 139 (0, 0)) ∧ Below w.heap.size w w' := Any.strconv_ParseInt_10_at64_range Tryz.laysC174 s hlim h ev w hv hev
def Tryz.lays143_ren : Go.Shelf.Ren := ⟨fun | 143 => 91 | 219 => 99 | 217 => 105 | 225 => 106 | 224 => 107 | 267 => 108 | 266 => 113 | 314 => 114 | n => n, fun | 9 => 9 | 3 => 3 | 4 => 4 | 5 => 5 | 46 => 104 | 146 => 141 | 51 => 115 | n => n, fun | 1 => 7 | n => n⟩
theorem Tryz.lays143 : Go.Proofs.Lays.n143 Tryz.prog Tryz.lays143_ren := {
  mixed := by kernel_rfl
  f143 := Tryz.func91.trans (congrArg some (by kernel_rfl))
  f217 := Tryz.func105.trans (congrArg some (by kernel_rfl))
  f219 := Tryz.func99.trans (congrArg some (by kernel_rfl))
  f224 := Tryz.func107.trans (congrArg some (by kernel_rfl))
  f225 := Tryz.func106.trans (congrArg some (by kernel_rfl))
  f266 := Tryz.func113.trans (congrArg some (by kernel_rfl))
  f267 := Tryz.func108.trans (congrArg some (by kernel_rfl))
  f314 := Tryz.func114.trans (congrArg some (by kernel_rfl))
  t3 := Tryz.underlying3
  a3 := Tryz.isAgg3
  z3 := Tryz.sizeOf3
  v3 := Tryz.zeroValue3
  t4 := Tryz.underlying4
  a4 := Tryz.isAgg4
  z4 := Tryz.sizeOf4
  v4 := Tryz.zeroValue4
  t5 := Tryz.underlying5
  a5 := Tryz.isAgg5
  z5 := Tryz.sizeOf5
  v5 := Tryz.zeroValue5
  t9 := Tryz.underlying9
  a9 := Tryz.isAgg9
  z9 := Tryz.sizeOf9
  v9 := Tryz.zeroValue9
  t46 := Tryz.underlying104
  a46 := Tryz.isAgg104
  z46 := Tryz.sizeOf104
  v46 := Tryz.zeroValue104
  t51 := Tryz.underlying115
  a51 := Tryz.isAgg115
  z51 := Tryz.sizeOf115
  v51 := Tryz.zeroValue115
  t146 := Tryz.underlying141
  a146 := Tryz.isAgg141
  z146 := Tryz.sizeOf141
  v146 := Tryz.zeroValue141
  g1 := by kernel_rfl }
open Go.RowKit Go.Lib in
theorem Tryz.strings_Index (s sub : ByteArray) (m : Int) (w : World) (hs : s.size < 4294967281) (hm : w.cell? ⟨7, 0, none⟩ = some (.int .i64 m)) :
    Calls Tryz.prog 91 #[.string s, .string sub] w fun e w' => e = .returned (.int .i64 (Lib.index s.data.toList sub.data.toList)) ∧ w' = w := Any.strings_Index Tryz.lays143 s sub m w hs hm
def Tryz.lays145_ren : Go.Shelf.Ren := ⟨fun | 145 => 79 | 220 => 92 | 219 => 99 | 217 => 105 | 225 => 106 | 224 => 107 | 267 => 108 | 266 => 113 | 314 => 114 | n => n, fun | 9 => 9 | 4 => 4 | 59 => 107 | 3 => 3 | 5 => 5 | 46 => 104 | 146 => 141 | 51 => 115 | n => n, fun | 1 => 7 | n => n⟩
theorem Tryz.lays145 : Go.Proofs.Lays.n145 Tryz.prog Tryz.lays145_ren := {
  mixed := by kernel_rfl
  f145 := Tryz.func79.trans (congrArg some (by kernel_rfl))
  f217 := Tryz.func105.trans (congrArg some (by kernel_rfl))
  f219 := Tryz.func99.trans (congrArg some (by kernel_rfl))
  f220 := Tryz.func92.trans (congrArg some (by kernel_rfl))
  f224 := Tryz.func107.trans (congrArg some (by kernel_rfl))
  f225 := Tryz.func106.trans (congrArg some (by kernel_rfl))
  f266 := Tryz.func113.trans (congrArg some (by kernel_rfl))
  f267 := Tryz.func108.trans (congrArg some (by kernel_rfl))
  f314 := Tryz.func114.trans (congrArg some (by kernel_rfl))
  t3 := Tryz.underlying3
  a3 := Tryz.isAgg3
  z3 := Tryz.sizeOf3
  v3 := Tryz.zeroValue3
  t4 := Tryz.underlying4
  a4 := Tryz.isAgg4
  z4 := Tryz.sizeOf4
  v4 := Tryz.zeroValue4
  t5 := Tryz.underlying5
  a5 := Tryz.isAgg5
  z5 := Tryz.sizeOf5
  v5 := Tryz.zeroValue5
  t9 := Tryz.underlying9
  a9 := Tryz.isAgg9
  z9 := Tryz.sizeOf9
  v9 := Tryz.zeroValue9
  t46 := Tryz.underlying104
  a46 := Tryz.isAgg104
  z46 := Tryz.sizeOf104
  v46 := Tryz.zeroValue104
  t51 := Tryz.underlying115
  a51 := Tryz.isAgg115
  z51 := Tryz.sizeOf115
  v51 := Tryz.zeroValue115
  t59 := Tryz.underlying107
  a59 := Tryz.isAgg107
  z59 := Tryz.sizeOf107
  v59 := Tryz.zeroValue107
  t146 := Tryz.underlying141
  a146 := Tryz.isAgg141
  z146 := Tryz.sizeOf141
  v146 := Tryz.zeroValue141
  g1 := by kernel_rfl }
open Go.RowKit Go.Lib in
theorem Tryz.strings_Cut (s sep : ByteArray) (m : Int) (w : World) (hs : s.size < 4294967281) (hm : w.cell? ⟨7, 0, none⟩ = some (.int .i64 m)) :
    Calls Tryz.prog 79 #[.string s, .string sep] w fun e w' => e = .returned (.tuple #[.string ⟨(Lib.cut s.data.toList sep.data.toList).1.toArray⟩, .string ⟨(Lib.cut s.data.toList sep.data.toList).2.1.toArray⟩, .bool (Lib.cut s.data.toList sep.data.toList).2.2]) ∧ ∃ n, w' = w.drewN n := Any.strings_Cut Tryz.lays145 s sep m w hs hm
def Tryz.lays264_ren : Go.Shelf.Ren := ⟨fun | 264 => 65 | n => n, fun | 53 => 84 | 46 => 104 | n => n, fun | n => n⟩
theorem Tryz.lays264 : Go.Proofs.Lays.n264 Tryz.prog Tryz.lays264_ren := {
  mixed := by kernel_rfl
  f264 := Tryz.func65.trans (congrArg some (by kernel_rfl))
  t46 := Tryz.underlying104
  a46 := Tryz.isAgg104
  z46 := Tryz.sizeOf104
  v46 := Tryz.zeroValue104
  t53 := Tryz.underlying84
  a53 := Tryz.isAgg84
  z53 := Tryz.sizeOf84
  v53 := Tryz.zeroValue84 }
open Go.RowKit Go.Lib in
theorem Tryz.bits_Mul64 (x y : Nat) (hx : x < 18446744073709551616) (hy : y < 18446744073709551616) (w : World) :
    Calls Tryz.prog 65 #[.int .u64 x, .int .u64 y] w fun e w' => e = .returned (.tuple #[.int .u64 ((x * y / 18446744073709551616 : Nat) : Int), .int .u64 ((x * y % 18446744073709551616 : Nat) : Int)]) ∧ w' = w := Any.bits_Mul64 Tryz.lays264 x y hx hy w
end Go.Proofs

/- Rows of plain structs as lists: how they lie in memory, whether handed in or the call's own. -/
namespace Go.Proofs.YtfdahpcpcjhggaaGreatDoor
open Go.RowKit
set_option linter.unusedVariables false

/-- Nothing that was there has changed. -/
def Kept (w w' : World) : Prop := Below w.heap.size w w'
theorem Kept.refl (w : World) : Kept w w := Below.refl _ _
theorem Kept.trans {a b c : World} (h : Kept a b) (k : Kept b c) : Kept a c := Below.trans h (Below.mono k h.size)
theorem Kept.drewN (w : World) (n : Nat) : Kept w (w.drewN n) := below_drewN (Below.refl _ _) n
theorem Kept.drew (w : World) : Kept w w.drew := Kept.drewN w 1
theorem kept_alloc (w : World) (o : Obj) : Kept w (w.alloc o) := (Below.refl _ _).alloc (Nat.le_refl _) _
theorem kept_alloc_drew (w : World) (o : Obj) (n : Nat) : Kept w ((w.drewN n).alloc o) := (kept_alloc w o).trans (Kept.drewN _ n)
theorem kept_two (w : World) (o o' : Obj) : Kept w ((w.alloc o).alloc o') := (kept_alloc w o).trans (kept_alloc _ o')
theorem cell_later {w w' : World} {a : Addr} {u : Value} (k : Kept w w') (h : w.cell? a = some u) : w'.cell? a = some u :=
  (Below.cell k (World.block_lt_of_cell? _ _ h)).trans h

theorem ret_i64 {a b : Int} (h : a = b) : Ending.returned (.int .i64 a) = .returned (.int .i64 b) := by rw [h]
/-- Text order, as the model has it. -/
def ltS (s t : ByteArray) : Bool := Op.bytesLess s.toList t.toList
def eqS (s t : ByteArray) : Bool := s.toList == t.toList
def leS (s t : ByteArray) : Bool := ltS s t || eqS s t
theorem eqS_iff {s t : ByteArray} : eqS s t = true ↔ s = t := by
  unfold eqS
  rw [Lib.toList_data, Lib.toList_data, beq_iff_eq]
  constructor
  · intro h
    cases s; cases t
    simp only [ByteArray.mk.injEq]
    exact Array.ext' h
  · rintro rfl; rfl
theorem eqS_self (s : ByteArray) : eqS s s = true := eqS_iff.2 rfl

/-- How an element lies: its cells, m of them. -/
structure Lay (α : Type) where
  m : Nat
  cs : α → List Value
  fine : α → Prop
  len : ∀ x, (cs x).length = m
  one : ∀ x u, u ∈ cs x → u.oneCell' = true
  pos : 0 < m

theorem one_s (x : ByteArray) (u : Value) (h : u ∈ [Value.string x]) : u.oneCell' = true := by
  have e : u = Value.string x := by simpa using h
  rw [e]; rfl
def StrLay : Lay ByteArray := { m := 1, cs := fun s => [.string s], fine := fun s => s.size ≤ maxLen, len := fun _ => rfl, one := one_s, pos := by decide }
/-- A slice of so many lies at a. -/
def RowAt {α : Type} (L : Lay α) (w : World) (a : Option Addr) (len : Nat) (l : List α) : Prop :=
  l.length = len ∧ len ≤ maxLen ∧ (∀ x ∈ l, L.fine x) ∧
    (len = 0 ∨ ∃ b off, a = some ⟨b, off, none⟩ ∧ b < w.heap.size ∧
      ∀ i x j u, l[i]? = some x → (L.cs x)[j]? = some u → w.cell? ⟨b, off + i * L.m + j, none⟩ = some u)

theorem RowAt.kept {α : Type} {L : Lay α} {w w' : World} {a : Option Addr} {len : Nat} {l : List α} (h : RowAt L w a len l) (k : Kept w w') : RowAt L w' a len l := by
  obtain ⟨h0, h1, h2, h3⟩ := h
  refine ⟨h0, h1, h2, h3.imp id ?_⟩
  rintro ⟨b, off, ha, hb, hc⟩
  exact ⟨b, off, ha, Nat.lt_of_lt_of_le hb k.size, fun i x j u hi hj => (Below.cell k (p := ⟨b, off + i * L.m + j, none⟩) hb).trans (hc i x j u hi hj)⟩

theorem RowAt.nil {α : Type} {L : Lay α} (w : World) (a : Option Addr) : RowAt L w a 0 [] := ⟨rfl, by decide, fun i hi => absurd hi (by simp), .inl rfl⟩
theorem RowAt.form {α : Type} {L : Lay α} {w : World} {a : Option Addr} {len : Nat} {l : List α} (h : RowAt L w a len l) : len = 0 ∨ ∃ b off, a = some ⟨b, off, none⟩ := by
  obtain ⟨_, _, _, h3⟩ := h
  exact h3.imp id fun ⟨b, off, e, _⟩ => ⟨b, off, e⟩

theorem RowAt.cells {α : Type} {L : Lay α} {w : World} {b off len : Nat} {l : List α} {k : Nat} (h : RowAt L w (some ⟨b, off, none⟩) len l) (hk : k < len) :
    ∃ x, l[k]? = some x ∧ l.drop k = x :: l.drop (k + 1) ∧ b < w.heap.size ∧ L.fine x ∧ ∀ (j : Nat) u, (L.cs x)[j]? = some u → w.cell? ⟨b, off + k * L.m + j, none⟩ = some u := by
  obtain ⟨h0, _, hf, h3⟩ := h
  have hkl : k < l.length := by omega
  rcases h3 with h3 | ⟨b', off', e, hb, hc⟩
  · omega
  · injection e with e; injection e with e1 e2 e3; subst e1; subst e2
    have he : l[k]? = some l[k] := List.getElem?_eq_getElem hkl
    exact ⟨l[k], he, List.drop_eq_getElem_cons hkl, hb, hf _ (List.getElem_mem hkl), fun j u hu => hc k _ j u he hu⟩

theorem RowAt.str {w : World} {b off len : Nat} {l : List ByteArray} {k : Nat} (h : RowAt StrLay w (some ⟨b, off, none⟩) len l) (hk : k < len) :
    ∃ x : ByteArray, l[k]? = some x ∧ l.drop k = x :: l.drop (k + 1) ∧ b < w.heap.size ∧ x.size ≤ maxLen ∧ w.cell? ⟨b, off + k, none⟩ = some (.string x) := by
  obtain ⟨x, h1, h2, h3, h4, h5⟩ := h.cells hk
  exact ⟨x, h1, h2, h3, h4, by have := h5 0 _ rfl; simpa [StrLay] using this⟩
/-- The cells of all. -/
def rowCells {α : Type} (L : Lay α) (l : List α) : List Value := l.flatMap L.cs
theorem rowCells_append {α : Type} (L : Lay α) (l m : List α) : rowCells L (l ++ m) = rowCells L l ++ rowCells L m := by unfold rowCells; rw [List.flatMap_append]
theorem rowCells_at {α : Type} (L : Lay α) : ∀ (l : List α) (i : Nat) (x : α) (j : Nat) (u : Value), l[i]? = some x → (L.cs x)[j]? = some u → (rowCells L l)[i * L.m + j]? = some u
  | [], i, x, j, u, h, _ => by simp at h
  | y :: t, 0, x, j, u, h, hu => by
    have : y = x := by simpa using h
    subst this
    unfold rowCells
    rw [List.flatMap_cons, Nat.zero_mul, Nat.zero_add, List.getElem?_append_left (List.getElem?_eq_some_iff.1 hu).1]
    exact hu
  | y :: t, i + 1, x, j, u, h, hu => by
    have ih := rowCells_at L t i x j u (by simpa using h) hu
    unfold rowCells at ih ⊢
    rw [List.flatMap_cons, List.getElem?_append_right (by rw [L.len, Nat.add_mul]; omega), L.len]
    have : (i + 1) * L.m + j - L.m = i * L.m + j := by rw [Nat.add_mul]; omega
    rw [this]; exact ih

/-- v is a row of the call's own (from block base on) that reads as l. -/
def Own {α : Type} (L : Lay α) (e : TypeId) (w : World) (base : Nat) (v : Value) (l : List α) : Prop := w.ownsRow base e L.m v l.length (rowCells L l) ∧ ∀ x ∈ l, L.fine x

theorem Own.nil {α : Type} {L : Lay α} (e : TypeId) (w : World) (base : Nat) : Own L e w base (.slice none 0 0) [] := ⟨World.ownsRow_nil w base e L.m, fun x h => by cases h⟩

theorem Own.at_ {α : Type} {L : Lay α} {e : TypeId} {w : World} {base : Nat} {v : Value} {l : List α} (h : Own L e w base v l) :
    ∃ a cap, v = .slice a l.length cap ∧ l.length ≤ cap ∧ cap ≤ maxLen ∧ RowAt L w a l.length l := by
  obtain ⟨h, hf⟩ := h
  have h' := h
  obtain ⟨_, h1⟩ := h
  rcases h1 with ⟨rfl, h0⟩ | ⟨g, cap, cur, rfl, hbg, hg, hn, hm, hs, ht⟩
  · have : l = [] := List.eq_nil_of_length_eq_zero h0
    subst this
    exact ⟨none, 0, rfl, Nat.le_refl _, by decide, RowAt.nil w none⟩
  · refine ⟨_, cap, rfl, hn, hm, rfl, Nat.le_trans hn hm, hf, .inr ⟨g, 0, rfl, ?_, fun i x j u hi hj => ?_⟩⟩
    · rcases Nat.lt_or_ge g w.heap.size with hlt | hge
      · exact hlt
      · rw [Array.getElem?_eq_none hge] at hg; cases hg
    · have c1 := h'.cells (g := g) rfl _ _ (rowCells_at L l i x j u hi hj)
      rw [← c1]
      congr 1
      unfold Addr.add
      split <;> simp_all

theorem Own.kept {α : Type} {L : Lay α} {e : TypeId} {w w' : World} {base : Nat} {v : Value} {l : List α} (h : Own L e w base v l) (k : Kept w w') : Own L e w' base v l := by
  obtain ⟨⟨h0, h1⟩, hf⟩ := h
  refine ⟨⟨h0, h1.imp id ?_⟩, hf⟩
  rintro ⟨g, cap, cur, rfl, hbg, hg, hn, hm, hs, ht⟩
  refine ⟨g, cap, cur, rfl, hbg, ?_, hn, hm, hs, ht⟩
  have hlt : g < w.heap.size := by
    rcases Nat.lt_or_ge g w.heap.size with hlt | hge
    · exact hlt
    · rw [Array.getElem?_eq_none hge] at hg; cases hg
  exact (k.block g hlt).trans hg
theorem Own.base_le {α : Type} {L : Lay α} {e : TypeId} {w : World} {B B' : Nat} {v : Value} {l : List α} (h : Own L e w B' v l) (hb : B ≤ B') : Own L e w B v l := by
  obtain ⟨⟨h0, h1⟩, hf⟩ := h
  refine ⟨⟨h0, h1.imp id ?_⟩, hf⟩
  rintro ⟨g, cap, cur, rfl, hbg, rest⟩
  exact ⟨g, cap, cur, rfl, Nat.le_trans hb hbg, rest⟩
theorem Own.setCell_below {α : Type} {L : Lay α} {e : TypeId} {w : World} {B : Nat} {v : Value} {l : List α} (h : Own L e w B v l) {a : Addr} (ha : a.block < B) (u : Value) : Own L e (w.setCell a u) B v l :=
  ⟨ownsRow_setCell_below h.1 ha u, h.2⟩
theorem Own.put {α : Type} {L : Lay α} {e : TypeId} {w : World} {B D : Nat} {v : Value} {l : List α} (h : Own L e w B v l) (hD : D < B) (o : Obj) : Own L e (w.putObj D o) B v l := by
  obtain ⟨⟨h0, h1⟩, hf⟩ := h
  refine ⟨⟨h0, h1.imp id ?_⟩, hf⟩
  rintro ⟨g, cap, cur, rfl, hbg, hg, rest⟩
  exact ⟨g, cap, cur, rfl, hbg, (World.putObj_heap_other (by omega)).trans hg, rest⟩

/-- A slice that reads as l. -/
def Reads {α : Type} (L : Lay α) (w : World) (v : Value) (l : List α) : Prop := ∃ a cap, v = .slice a l.length cap ∧ l.length ≤ cap ∧ cap ≤ maxLen ∧ RowAt L w a l.length l
theorem Reads.kept {α : Type} {L : Lay α} {w w' : World} {v : Value} {l : List α} (h : Reads L w v l) (k : Kept w w') : Reads L w' v l := by
  obtain ⟨a, cap, e, h1, h2, h3⟩ := h
  exact ⟨a, cap, e, h1, h2, h3.kept k⟩
theorem Own.reads {α : Type} {L : Lay α} {e : TypeId} {w : World} {base : Nat} {v : Value} {l : List α} (h : Own L e w base v l) : Reads L w v l := by
  obtain ⟨a, cap, e, h1, h2, h3⟩ := h.at_
  exact ⟨a, cap, e, h1, h2, h3⟩

/-- A panic with one of the document's errors. -/
abbrev perr (c : Int) : PanicEntry := { v := .iface 28 (.int .i64 c), recovered := false }

end Go.Proofs.YtfdahpcpcjhggaaGreatDoor

/- Names: package res's and the reference's. -/
namespace Go.Proofs.YtfdahpcpcjhggaaGreatDoor
open Go.RowKit
set_option linter.unusedVariables false

/-- A byte that a name may have. -/
def okByte (c : UInt8) : Bool := (decide (97 ≤ (c.toNat : Int)) && decide ((c.toNat : Int) ≤ 122)) || (decide (48 ≤ (c.toNat : Int)) && decide ((c.toNat : Int) ≤ 57))
def isName (s : ByteArray) : Bool := decide (1 ≤ s.size) && decide (s.size ≤ 12) && s.data.toList.all okByte

theorem empty_of_size {s : ByteArray} (h : s.size = 0) : s = ByteArray.empty := by
  have e : s.data.toList = [] := List.eq_nil_of_length_eq_zero (by rw [Array.length_toList, ByteArray.size_data]; exact h)
  exact Go.WideShapes.bytes_inj (by rw [e]; rfl)

theorem ret_bool {a b : Bool} (h : a = b) : Ending.returned (.bool a) = .returned (.bool b) := by rw [h]

theorem okByte_iff (c : UInt8) : okByte c = true ↔ ((97 ≤ (c.toNat : Int) ∧ (c.toNat : Int) ≤ 122) ∨ (48 ≤ (c.toNat : Int) ∧ (c.toNat : Int) ≤ 57)) := by
  unfold okByte; simp only [Bool.or_eq_true, Bool.and_eq_true, decide_eq_true_eq]

theorem all_ok {s : ByteArray} (h : s.data.toList.all okByte = true) (i : Nat) (hi : i < s.size) : okByte s[i] = true := by
  rw [List.all_eq_true] at h
  exact h _ (by simp [ByteArray.getElem_eq_getElem_data])
theorem not_all_ok {s : ByteArray} (h : ¬ s.data.toList.all okByte = true) : ∃ (j : Nat) (hj : j < s.size), okByte s[j] = false := by
  rw [List.all_eq_true] at h
  obtain ⟨x, h⟩ := Classical.not_forall.1 h
  obtain ⟨hx, hn⟩ := Classical.not_imp.1 h
  obtain ⟨j, hj, e⟩ := List.getElem_of_mem hx
  refine ⟨j, by simpa using hj, ?_⟩
  have : s[j]'(by simpa using hj) = x := by rw [← e]; simp [ByteArray.getElem_eq_getElem_data]
  rw [this]; simpa using hn

theorem digit_yes (c : UInt8) (w : World) (h1 : 48 ≤ (c.toNat : Int)) (h2 : (c.toNat : Int) ≤ 57) :
    Calls Tryz.prog 56 #[.int .u8 (c.toNat : Int)] w fun e w' => e = .returned (.bool true) ∧ w = w' := by
  go_enter Tryz.func56, Tryz.ntmps56
  go_wp2
  go_ret
  exact ⟨by simp [h1, h2], rfl⟩
theorem digit_no (c : UInt8) (w : World) (h : (c.toNat : Int) < 48 ∨ 57 < (c.toNat : Int)) :
    Calls Tryz.prog 56 #[.int .u8 (c.toNat : Int)] w fun e w' => e = .returned (.bool false) ∧ w = w' := by
  by_cases h1 : (c.toNat : Int) < 48
  · go_enter Tryz.func56, Tryz.ntmps56
    go_wp2
    go_ret
    exact ⟨rfl, rfl⟩
  · have h2 : 57 < (c.toNat : Int) := by omega
    have h3 : 48 ≤ (c.toNat : Int) := by omega
    have h4 : decide ((c.toNat : Int) ≤ 57) = false := by simpa using h2
    clear h h1
    go_enter Tryz.func56, Tryz.ntmps56
    go_wp2
    go_ret
    exact ⟨rfl, rfl⟩

set_option maxHeartbeats 800000 in
theorem refName_any (s : ByteArray) (w : World) (hs : s.size ≤ maxLen) :
    Calls Tryz.prog 30 #[.string s] w fun e w' => e = .returned (.bool (isName s)) ∧ w = w' := by
  unfold maxLen at hs
  by_cases h1 : 1 ≤ s.size
  · by_cases h2 : s.size ≤ 12
    · by_cases hall : s.data.toList.all okByte = true
      · have HV := Lib.hid (show isName s = true by simp [isName, h1, h2, hall])
        have HA := Lib.hid (all_ok hall)
        clear hall
        go_enter Tryz.func30, Tryz.ntmps30
        go_wp2
        go_loop [3] (fun i => ∃ k : Nat, k ≤ s.size ∧ i = .int .i64 k) (fun i => s.size - (intOf i).toNat)
        case atStart => exact ⟨0, Nat.zero_le _, rfl⟩
        case round =>
          obtain ⟨k, hk, rfl⟩ := hrel
          by_cases hlt : k < s.size
          · have hok := (okByte_iff _).1 (HA.out k hlt)
            by_cases c1 : (s[k].toNat : Int) < 97
            · have c2 : 48 ≤ (s[k].toNat : Int) := by omega
              have c3 : (s[k].toNat : Int) ≤ 57 := by omega
              clear hok
              go_wp2
              go_round
              case rel => exact ⟨k + 1, by omega, by go_num⟩
              case measure => simp [intOf]; omega
            · have c2 : (s[k].toNat : Int) ≤ 122 := by omega
              clear hok
              go_wp2
              go_round
              case rel => exact ⟨k + 1, by omega, by go_num⟩
              case measure => simp [intOf]; omega
          · go_wp2
            go_ret
            exact ⟨ret_bool HV.out.symm, rfl⟩
      · have HV := Lib.hid (show isName s = false by simp only [isName, Bool.and_eq_false_iff]; exact .inr (by simpa using hall))
        obtain ⟨j, hj, hbad⟩ := not_all_ok hall
        have HB := Lib.hid hbad
        clear hall hbad
        go_enter Tryz.func30, Tryz.ntmps30
        go_wp2
        go_loop [3] (fun i => ∃ k : Nat, k ≤ j ∧ i = .int .i64 k) (fun i => s.size - (intOf i).toNat)
        case atStart => exact ⟨0, Nat.zero_le _, rfl⟩
        case round =>
          obtain ⟨k, hk, rfl⟩ := hrel
          have hlt : k < s.size := by omega
          by_cases hok : okByte s[k] = true
          · have hkj : k + 1 ≤ j := by
              rcases Nat.lt_or_eq_of_le hk with g | g
              · exact g
              · subst g; rw [HB.out] at hok; cases hok
            have hok := (okByte_iff _).1 hok
            by_cases c1 : (s[k].toNat : Int) < 97
            · have c2 : 48 ≤ (s[k].toNat : Int) := by omega
              have c3 : (s[k].toNat : Int) ≤ 57 := by omega
              clear hok
              go_wp2
              go_round
              case rel => exact ⟨k + 1, by omega, by go_num⟩
              case measure => simp [intOf]; omega
            · have c2 : (s[k].toNat : Int) ≤ 122 := by omega
              clear hok
              go_wp2
              go_round
              case rel => exact ⟨k + 1, by omega, by go_num⟩
              case measure => simp [intOf]; omega
          · have hbad : ¬ ((97 ≤ (s[k].toNat : Int) ∧ (s[k].toNat : Int) ≤ 122) ∨ (48 ≤ (s[k].toNat : Int) ∧ (s[k].toNat : Int) ≤ 57)) := fun g => hok ((okByte_iff _).2 g)
            clear hok
            by_cases c1 : (s[k].toNat : Int) < 97
            · by_cases c2 : (s[k].toNat : Int) < 48
              · clear hbad
                go_wp2
                go_ret
                exact ⟨ret_bool HV.out.symm, rfl⟩
              · have c3 : 57 < (s[k].toNat : Int) := by omega
                clear hbad
                go_wp2
                go_ret
                exact ⟨ret_bool HV.out.symm, rfl⟩
            · have c2 : 122 < (s[k].toNat : Int) := by omega
              have c3 : 57 < (s[k].toNat : Int) := by omega
              have c4 : ¬ (s[k].toNat : Int) < 48 := by omega
              clear hbad
              go_wp2
              go_ret
              exact ⟨ret_bool HV.out.symm, rfl⟩
    · have HV := Lib.hid (show isName s = false by simp [isName, h2])
      have h3 : 12 < s.size := by omega
      clear h2
      go_enter Tryz.func30, Tryz.ntmps30
      go_wp2
      go_ret
      exact ⟨ret_bool HV.out.symm, rfl⟩
  · have HV := Lib.hid (show isName s = false by simp [isName, h1])
    have h3 : s.size < 1 := by omega
    clear h1
    go_enter Tryz.func30, Tryz.ntmps30
    go_wp2
    go_ret
    exact ⟨ret_bool HV.out.symm, rfl⟩

set_option maxHeartbeats 800000 in
theorem name_any (s : ByteArray) (w : World) (hs : s.size ≤ maxLen) :
    Calls Tryz.prog 26 #[.string s] w fun e w' => e = .returned (.bool (isName s)) ∧ w = w' := by
  unfold maxLen at hs
  by_cases h1 : 1 ≤ s.size
  · have hne : (s.toList == ([] : List UInt8)) = false := by
      rw [Lib.toList_data]
      cases hl : s.data.toList with
      | nil => have : s.size = 0 := by rw [← ByteArray.size_data, ← Array.length_toList, hl]; rfl
               omega
      | cons x t => rfl
    by_cases h2 : s.size ≤ 12
    · by_cases hall : s.data.toList.all okByte = true
      · have HV := Lib.hid (show isName s = true by simp [isName, h1, h2, hall])
        have HA := Lib.hid (all_ok hall)
        clear hall
        go_enter Tryz.func26, Tryz.ntmps26
        go_wp2
        go_loop [14] (fun i => ∃ k : Nat, k ≤ s.size ∧ i = .int .i64 k) (fun i => s.size - (intOf i).toNat)
        case atStart => exact ⟨0, Nat.zero_le _, rfl⟩
        case round =>
          obtain ⟨k, hk, rfl⟩ := hrel
          by_cases hlt : k < s.size
          · have hok := (okByte_iff _).1 (HA.out k hlt)
            by_cases c1 : 97 ≤ (s[k].toNat : Int)
            · have c2 : (s[k].toNat : Int) ≤ 122 := by omega
              clear hok
              go_wp2
              go_round
              case rel => exact ⟨k + 1, by omega, by go_num⟩
              case measure => simp [intOf]; omega
            · have c2 : 48 ≤ (s[k].toNat : Int) := by omega
              have c3 : (s[k].toNat : Int) ≤ 57 := by omega
              clear hok
              go_wp2_with (go_at_call 56; refine (digit_yes _ _ c2 c3).mono ?_; rintro e w' ⟨rfl, rfl⟩)
              go_round
              case rel => exact ⟨k + 1, by omega, by go_num⟩
              case measure => simp [intOf]; omega
          · go_wp2
            go_ret
            exact ⟨ret_bool HV.out.symm, rfl⟩
      · have HV := Lib.hid (show isName s = false by simp only [isName, Bool.and_eq_false_iff]; exact .inr (by simpa using hall))
        obtain ⟨j, hj, hbad⟩ := not_all_ok hall
        have HB := Lib.hid hbad
        clear hall hbad
        go_enter Tryz.func26, Tryz.ntmps26
        go_wp2
        go_loop [14] (fun i => ∃ k : Nat, k ≤ j ∧ i = .int .i64 k) (fun i => s.size - (intOf i).toNat)
        case atStart => exact ⟨0, Nat.zero_le _, rfl⟩
        case round =>
          obtain ⟨k, hk, rfl⟩ := hrel
          have hlt : k < s.size := by omega
          by_cases hok : okByte s[k] = true
          · have hkj : k + 1 ≤ j := by
              rcases Nat.lt_or_eq_of_le hk with g | g
              · exact g
              · subst g; rw [HB.out] at hok; cases hok
            have hok := (okByte_iff _).1 hok
            by_cases c1 : 97 ≤ (s[k].toNat : Int)
            · have c2 : (s[k].toNat : Int) ≤ 122 := by omega
              clear hok
              go_wp2
              go_round
              case rel => exact ⟨k + 1, by omega, by go_num⟩
              case measure => simp [intOf]; omega
            · have c2 : 48 ≤ (s[k].toNat : Int) := by omega
              have c3 : (s[k].toNat : Int) ≤ 57 := by omega
              clear hok
              go_wp2_with (go_at_call 56; refine (digit_yes _ _ c2 c3).mono ?_; rintro e w' ⟨rfl, rfl⟩)
              go_round
              case rel => exact ⟨k + 1, by omega, by go_num⟩
              case measure => simp [intOf]; omega
          · have hbad : ¬ ((97 ≤ (s[k].toNat : Int) ∧ (s[k].toNat : Int) ≤ 122) ∨ (48 ≤ (s[k].toNat : Int) ∧ (s[k].toNat : Int) ≤ 57)) := fun g => hok ((okByte_iff _).2 g)
            have c4 : (s[k].toNat : Int) < 48 ∨ 57 < (s[k].toNat : Int) := by omega
            have C4 := Lib.hid c4
            clear hok
            by_cases c1 : 97 ≤ (s[k].toNat : Int)
            · have c2 : decide ((s[k].toNat : Int) ≤ 122) = false := by
                have : 122 < (s[k].toNat : Int) := by omega
                simpa using this
              clear hbad c4
              go_wp2_with (go_at_call 56; refine (digit_no _ _ C4.out).mono ?_; rintro e w' ⟨rfl, rfl⟩)
              go_ret
              exact ⟨ret_bool HV.out.symm, rfl⟩
            · clear hbad c4
              go_wp2_with (go_at_call 56; refine (digit_no _ _ C4.out).mono ?_; rintro e w' ⟨rfl, rfl⟩)
              go_ret
              exact ⟨ret_bool HV.out.symm, rfl⟩
    · have HV := Lib.hid (show isName s = false by simp [isName, h2])
      have h3 : 12 < s.size := by omega
      clear h2
      go_enter Tryz.func26, Tryz.ntmps26
      go_wp2
      go_ret
      exact ⟨ret_bool HV.out.symm, rfl⟩
  · have HV := Lib.hid (show isName s = false by simp [isName, h1])
    have h0 : s = ByteArray.empty := by
      have : s.size = 0 := by omega
      exact empty_of_size this
    subst h0
    clear h1
    go_enter Tryz.func26, Tryz.ntmps26
    go_wp2
    go_ret
    exact ⟨ret_bool HV.out.symm, rfl⟩

end Go.Proofs.YtfdahpcpcjhggaaGreatDoor

/- Plain arithmetic under quantities: products by halves, parts by a thousand, division of 128 bits by a thousand. Nothing of Go. -/
namespace Go.Proofs.YtfdahpcpcjhggaaGreatDoor.Vec
open Go.RowKit
set_option linter.unusedVariables false

/-- The two halves of a product. -/
def mulHi (x y : Int) : Int := x * y / 18446744073709551616
def mulLo (x y : Int) : Int := x * y % 18446744073709551616

/-- A number of two halves by a thousand. -/
def divQ (h l : Int) : Int := (h * 18446744073709551616 + l) / 1000
def divR (h l : Int) : Int := (h * 18446744073709551616 + l) % 1000

/-- A part: a times p by a thousand; what is left. -/
def parQ (a p : Int) : Int := a * p / 1000
def parR (a p : Int) : Int := a * p % 1000

theorem mul_nonneg' {a b : Int} (ha : 0 ≤ a) (hb : 0 ≤ b) : 0 ≤ a * b := Int.mul_nonneg ha hb

theorem mulHi_nonneg {x y : Int} (hx : 0 ≤ x) (hy : 0 ≤ y) : 0 ≤ mulHi x y := by
  have := mul_nonneg' hx hy
  unfold mulHi; omega
theorem mulLo_bd (x y : Int) : 0 ≤ mulLo x y ∧ mulLo x y ≤ 18446744073709551615 := by
  unfold mulLo; omega
theorem mulHi_le {x y : Int} (hx : 0 ≤ x) (hy : 0 ≤ y) (hx' : x ≤ 9223372036854775807) (hy' : y ≤ 9223372036854775807) : mulHi x y ≤ 4611686018427387903 := by
  have h := Int.mul_le_mul hx' hy' hy (by omega)
  unfold mulHi; omega
theorem mulHi_small {x y : Int} (h0 : 0 ≤ x * y) (h : x * y ≤ 9223372036854775807) : mulHi x y ≤ 0 ∧ mulLo x y = x * y := by
  unfold mulHi mulLo; omega
/-- Not small: the high half is more than none, or the low one is too great. -/
theorem mul_great {x y : Int} (h : 9223372036854775807 < x * y) : 0 < mulHi x y ∨ 9223372036854775807 < mulLo x y := by
  unfold mulHi mulLo; omega

theorem divQ_mul (x y : Int) : divQ (mulHi x y) (mulLo x y) = parQ x y := by
  unfold divQ mulHi mulLo parQ
  rw [Int.mul_comm (x * y / 18446744073709551616), Int.mul_ediv_add_emod]
theorem divR_mul (x y : Int) : divR (mulHi x y) (mulLo x y) = parR x y := by
  unfold divR mulHi mulLo parR
  rw [Int.mul_comm (x * y / 18446744073709551616), Int.mul_ediv_add_emod]

theorem parR_bd (a p : Int) : 0 ≤ parR a p ∧ parR a p ≤ 999 := by unfold parR; omega
theorem parQ_nonneg {a p : Int} (ha : 0 ≤ a) (hp : 0 ≤ p) : 0 ≤ parQ a p := by
  have := mul_nonneg' ha hp
  unfold parQ; omega
/-- The product's high half is below a thousand just where the quotient fits 64 bits. -/
theorem hi_ge {a p : Int} (h : 1000 ≤ mulHi a p) : 9223372036854775807 < parQ a p := by
  unfold mulHi at h; unfold parQ; omega

theorem part_sum (a p : Int) : parQ a p = a * (p / 1000) + a / 1000 * (p % 1000) + a % 1000 * (p % 1000) / 1000 := by
  have e : a * p = 1000 * (a * (p / 1000)) + 1000 * (a / 1000 * (p % 1000)) + a % 1000 * (p % 1000) := by
    have h1 : p = 1000 * (p / 1000) + p % 1000 := by omega
    have h2 : a * (p % 1000) = 1000 * (a / 1000 * (p % 1000)) + a % 1000 * (p % 1000) := by
      have h3 : a = 1000 * (a / 1000) + a % 1000 := by omega
      calc a * (p % 1000) = (1000 * (a / 1000) + a % 1000) * (p % 1000) := by rw [← h3]
        _ = 1000 * (a / 1000 * (p % 1000)) + a % 1000 * (p % 1000) := by rw [Int.add_mul, Int.mul_assoc]
    calc a * p = a * (1000 * (p / 1000) + p % 1000) := by rw [← h1]
      _ = 1000 * (a * (p / 1000)) + a * (p % 1000) := by rw [Int.mul_add, Int.mul_left_comm]
      _ = _ := by rw [h2]; omega
  unfold parQ
  rw [e]
  omega
theorem part_rest (a p : Int) : parR a p = a % 1000 * (p % 1000) % 1000 := by
  unfold parR
  rw [Int.mul_emod]

/-- An answer of two numbers, each known by an equation. -/
theorem ret_pair {j k : IntKind} {a b c d : Int} (h : a = b) (g : c = d) : Ending.returned (.tuple #[.int j a, .int k c]) = .returned (.tuple #[.int j b, .int k d]) := by rw [h, g]
theorem ret_three {i j k : IntKind} {a b c d x y : Int} (h : a = b) (g : c = d) (f : x = y) : Ending.returned (.tuple #[.int i a, .int j c, .int k x]) = .returned (.tuple #[.int i b, .int j d, .int k y]) := by rw [h, g, f]

end Go.Proofs.YtfdahpcpcjhggaaGreatDoor.Vec

/- Rows and texts, of no program. -/
namespace Go.Proofs.YtfdahpcpcjhggaaGreatDoor
open Go.RowKit
set_option linter.unusedVariables false

theorem all_cons {α : Type} (f : α → Bool) (x : α) (t : List α) : (x :: t).all f = (f x && t.all f) := rfl
theorem Own.snoc {α : Type} {L : Lay α} {e : TypeId} {w : World} {base n : Nat} {v : Value} {l : List α} {x : α} (h : w.ownsRow base e L.m v n (rowCells L l ++ L.cs x)) (hn : l.length + 1 = n) (hf : ∀ z ∈ l, L.fine z) (hx : L.fine x) : Own L e w base v (l ++ [x]) := by
  refine ⟨?_, fun z hz => ?_⟩
  · rw [List.length_append, rowCells_append]
    show w.ownsRow base e L.m v (l.length + 1) (rowCells L l ++ rowCells L [x])
    rw [hn]
    have e : rowCells L [x] = L.cs x := by unfold rowCells; simp
    rw [e]; exact h
  · rcases List.mem_append.1 hz with g | g
    · exact hf z g
    · have : z = x := by simpa using g
      rw [this]; exact hx
/-- What a call answers that makes a row: it reads so. -/
def Got {α : Type} (L : Lay α) (c : Int) (l : List α) (w : World) (e : Ending) (w' : World) : Prop := ∃ v, e = .returned (.tuple #[v, .int .i64 c]) ∧ Reads L w' v l ∧ Kept w w'
theorem Reads.nil {α : Type} {L : Lay α} (w : World) : Reads L w (.slice none 0 0) [] := ⟨none, 0, rfl, Nat.le_refl _, by decide, RowAt.nil w none⟩
theorem RowAt.part {α : Type} {L : Lay α} {w : World} {b off len : Nat} {l : List α} (h : RowAt L w (some ⟨b, off, none⟩) len l) (i n : Nat) (hi : i + n ≤ len) :
    RowAt L w (some ⟨b, off + i * L.m, none⟩) n ((l.drop i).take n) := by
  obtain ⟨h0, h1, h2, h3⟩ := h
  refine ⟨by rw [List.length_take, List.length_drop]; omega, by omega, fun x hx => h2 x (List.mem_of_mem_drop (List.mem_of_mem_take hx)), ?_⟩
  rcases h3 with h3 | ⟨b', off', e, hb, hc⟩
  · exact .inl (by omega)
  · injection e with e; injection e with e1 e2 e3; subst e1; subst e2
    refine .inr ⟨b, _, rfl, hb, fun k x j u hk hj => ?_⟩
    have hkn : k < n := by have := (List.getElem?_eq_some_iff.1 hk).1; rw [List.length_take] at this; omega
    have hk' : l[i + k]? = some x := by
      rw [List.getElem?_take, if_pos hkn, List.getElem?_drop] at hk; exact hk
    have := hc (i + k) x j u hk' hj
    rw [show off + i * L.m + k * L.m + j = off + (i + k) * L.m + j by rw [Nat.add_mul]; omega]
    exact this
end Go.Proofs.YtfdahpcpcjhggaaGreatDoor

/- A range over a function whose body may panic: the round's contract out of its body's walk, the panic let through. -/
namespace Go.Proofs.YtfdahpcpcjhggaaGreatDoor
open Go

/-- As the kit's 'roundPost'; a panic is let through (no deferred calls of the round's own). -/
def roundPostP (P : Program) (l : Nat) (R : Ending → World → Prop) : Exit → Act → World → Prop
  | .panic chain, a, w => a.defers = [] ∧ R (.panicked chain) w
  | .outgrown, _, _ => False
  | .normal, _, w => ∃ v w', (Instr.endRound l none).run P w = .ok v w' ∧ R (.returned v) w'
  | _, _, _ => False

theorem roundIn_of_wpIn_panic {F : Fence} {n : Nat} {P : Program} {l : Nat} {f : FuncId} {fn : Func} {tmps : Array Value} {assign body : Code} {w : World} {R : Ending → World → Prop} (hF : F.fn f) (hfn : P.funcs[f]? = some fn)
    (h : assign.wpIn (F.inRound l) n P (Exit.then (fun a₁ w₁ => ∃ w₂, (Instr.beginRound l).run P w₁ = .ok () w₂ ∧ body.wpIn (F.inRound l) n P (roundPostP P l R) a₁ w₂) (fun _ _ _ => False))
      { tmps := tmps, defers := [] } w) :
    RoundIn F n P l f tmps assign body w R := by
  refine ⟨hF, fun c cs hr => ?_⟩
  let b : Frame := { (default : Frame) with fn := f, kind := .normal, roundOf := some l }
  have hb0 : Frame.round l f tmps assign body .normal = b.atR { tmps := tmps, defers := [] } [.code assign, .beginRound, .code body] := by
    simp [Frame.round, Frame.atR, b]
  have hr' : (F.inRound l).room ((c :: cs).length + 1 + n) := hr
  have hF' : (F.inRound l).fn b.fn := hF
  obtain ⟨e, a₁, w₁, hq, harr⟩ := h b [.beginRound, .code body] (c :: cs) rfl hF' hr'
  rw [← hb0] at harr
  cases e with
  | normal =>
    obtain ⟨w₂, hbr, hbody⟩ := hq
    have s1 : StepsIn (Machine.fenced P (F.inRound l)) P (lone (b.atR a₁ [.beginRound, .code body]) (c :: cs) w₁) (lone (b.atR a₁ [.code body]) (c :: cs) w₂) :=
      .one (fenced_calm (fr := b.atR a₁ [.beginRound, .code body]) hF' hr' rfl) (stepR_beginRound rfl hbr)
    obtain ⟨e₂, a₂, w₃, hq₂, harr₂⟩ := hbody b [] (c :: cs) rfl hF' hr'
    cases e₂ with
    | normal =>
      obtain ⟨v, w₄, hend, hR⟩ := hq₂
      exact ⟨.returned v, w₄, hR, (StepsIn.trans harr s1).trans (StepsIn.trans harr₂ (.one (fenced_calm (fr := b.atR a₂ []) hF' hr' rfl) (stepR_round_end rfl rfl hend)))⟩
    | ret => exact hq₂.elim
    | exit id => exact hq₂.elim
    | goto t => exact hq₂.elim
    | panic chain =>
      obtain ⟨hd, hR⟩ := hq₂
      obtain ⟨todo, hs⟩ := harr₂
      have hl : ({ b.atR a₂ todo with mode := .panicking chain } : Frame).leaving P w₃ (.panicked chain) := ⟨rfl, hd, fn, hfn⟩
      exact ⟨.panicked chain, w₃, hR, (StepsIn.trans harr s1).trans (StepsIn.trans hs (.one (fenced_leaving (n := n) (F := F.inRound l) hF' hr' hl) (step_leave_panicked hl)))⟩
    | outgrown => exact hq₂.elim
  | exit id => exact hq.elim
  | goto t => exact hq.elim
  | ret => exact hq.elim
  | panic chain => exact hq.elim
  | outgrown => exact hq.elim

end Go.Proofs.YtfdahpcpcjhggaaGreatDoor

/- A function's code walked at that function's own frames: its sequences, its blocks, its ranges over functions (their rounds' frames are then known to be a function's that is there). -/
namespace Go.Proofs.YtfdahpcpcjhggaaGreatDoor
open Go
set_option linter.unusedVariables false

/-- The code c from frames of function fid alone. -/
def WpAt (fid : FuncId) (P : Program) (c : Code) (Q : Exit → Act → World → Prop) (a : Act) (w : World) : Prop :=
  ∀ (b : Frame) (k : List Item) (cs : List Frame), b.fn = fid → b.roundOf = none →
    ∃ e a' w', Q e a' w' ∧ ArrivesIn (Machine.fenced P Fence.wide) P (lone (b.atR a (.code c :: k)) cs w) b k cs e a' w'

section
variable {fid : FuncId} {P : Program} {Q : Exit → Act → World → Prop} {a : Act} {w : World}

theorem wpAt_of {n : Nat} {c : Code} (h : c.wpIn Fence.wide n P Q a w) : WpAt fid P c Q a w :=
  fun b k cs _ hro => h b k cs hro trivial (room_wide _)

theorem wpAt_seq {x y : Code} (h : WpAt fid P x (Exit.then (WpAt fid P y Q) Q) a w) : WpAt fid P (Code.seq x y) Q a w := by
  intro b k cs hb hro
  obtain ⟨e, a₁, w₁, hq, harr⟩ := h b (.code y :: k) cs hb hro
  have h0 := StepsIn.one (I := Machine.fenced P Fence.wide) (fenced_wide P _) (stepR_seq (P := P) (b := b) (a := a) (k := k) (cs := cs) (w := w) (x := x) (y := y))
  cases e with
  | normal =>
    obtain ⟨e₂, a₂, w₂, hq₂, harr₂⟩ := hq b k cs hb hro
    exact ⟨e₂, a₂, w₂, hq₂, .of_steps (h0.trans harr) harr₂⟩
  | exit id => exact ⟨_, a₁, w₁, hq, .of_steps h0 (.pass (x := .code y) rfl (fun _ _ => .inl (by simp)) harr)⟩
  | goto l => exact ⟨_, a₁, w₁, hq, .of_steps h0 (.pass (x := .code y) rfl (fun _ _ => .inl (by simp)) harr)⟩
  | ret => exact ⟨_, a₁, w₁, hq, .of_steps h0 (.pass (x := .code y) rfl (fun _ _ => .inl (by simp)) harr)⟩
  | panic ch => exact ⟨_, a₁, w₁, hq, .of_steps h0 (.pass (x := .code y) rfl (fun _ _ => .inl (by simp)) harr)⟩
  | outgrown => exact ⟨_, a₁, w₁, hq, .of_steps h0 (.pass (x := .code y) rfl (fun _ _ => .inl (by simp)) harr)⟩

/-- A block that is left off its end, or by a panic. -/
def blockPost (Q : Exit → Act → World → Prop) : Exit → Act → World → Prop
  | .normal, a, w => Q .normal a w
  | .panic c, a, w => Q (.panic c) a w
  | _, _, _ => False
theorem wpAt_block {id : Nat} {c : Code} (h : WpAt fid P c (blockPost Q) a w) : WpAt fid P (Code.block id c) Q a w := by
  intro b k cs hb hro
  obtain ⟨e, a₁, w₁, hq, harr⟩ := h b (.inBlock id :: k) cs hb hro
  have h0 := StepsIn.one (I := Machine.fenced P Fence.wide) (fenced_wide P _) (stepR_block (P := P) (b := b) (a := a) (k := k) (cs := cs) (w := w) (id := id) (c := c))
  cases e with
  | normal => exact ⟨.normal, a₁, w₁, hq, (h0.trans harr).trans (.one (fenced_wide P _) stepR_inBlock)⟩
  | panic ch => obtain ⟨todo, hs⟩ := harr; exact ⟨.panic ch, a₁, w₁, hq, todo, h0.trans hs⟩
  | exit id => exact hq.elim
  | goto l => exact hq.elim
  | ret => exact hq.elim
  | outgrown => exact hq.elim

/-- What is asked when the function that was ranged over has ended: no round has left a jump. -/
def atRangePost (P : Program) (l : Nat) (Q : Exit → Act → World → Prop) (a' : Act) : Ending → World → Prop
  | .returned _, w₃ => ∃ w₄, (Instr.endLoop l).run P w₃ = .ok none w₄ ∧ Q .normal a' w₄
  | .panicked chain, w₃ => Q (.panic chain) a' w₃
  | .outgrown, _ => False

theorem wpAt_rangeFunc {n : Nat} {g : Operand} {ps : Array Tmp} {assign body : Code} {l : Nat} {mark : List Deferred} {w₁ : World} {d : Deferred} {f : FuncId} {args : Array Value}
    (he : (Instr.enterLoop fid a.tmps ps assign body none).run P w = .ok (l, mark) w₁) (hres : (resolve a.eval (rangeCall g l) 0).run P w₁ = .ok d w₁) (hinv : (invoke d.target d.args).run P w₁ = .ok (.enter f args) w₁)
    (hcall : CallsIn Fence.wide n P f args w₁ (atRangePost P l Q { a with defers := mark ++ a.defers })) : WpAt fid P (Code.rangeFunc g ps assign body) Q a w := by
  intro b k cs hb hro
  have henter := stepR_rangeFunc (P := P) (b := b) (a := a) (k := k) (cs := cs) (w := w) (by rw [hb, hro]; exact he) hres hinv
  obtain ⟨e, w₃, fr, hR, hsteps, hfn, hleave⟩ := hcall.2 (b.atR { a with defers := mark ++ a.defers } (.inRangeFunc l :: k) :: cs) (room_wide _)
  cases e with
  | outgrown => exact hR.elim
  | returned v =>
    obtain ⟨w₄, hend, hq⟩ := hR
    have back := step_leave_returned (c := b.atR { a with defers := mark ++ a.defers } (.inRangeFunc l :: k)) (cs := cs) hleave
    rw [finish_atR_inRangeFunc] at back
    exact ⟨.normal, _, w₄, hq, .head (fenced_wide P _) henter (StepsIn.trans hsteps (.head (fenced_wide P _) back (.one (fenced_wide P _) (stepR_endRangeFunc (jump := none) hend))))⟩
  | panicked chain =>
    have back := step_leave_panicked (c := b.atR { a with defers := mark ++ a.defers } (.inRangeFunc l :: k)) (cs := cs) hleave
    rw [Frame.raise_atR] at back
    exact ⟨.panic chain, _, w₃, hR, .inRangeFunc l :: k, .head (fenced_wide P _) henter (StepsIn.trans hsteps (.one (fenced_wide P _) back))⟩

/-- A function's contract from its body. -/
theorem calls_of_wpAt {n : Nat} {fn : Func} {c : Code} {args : Array Value} {R : Ending → World → Prop} (hf : P.funcs[fid]? = some fn) (hb : fn.body = some c)
    (h : WpAt fid P c (bodyPostM Fence.wide n P fn R) { tmps := args ++ Array.replicate (fn.ntmps - args.size) undef, defers := [] } w) : Calls P fid args w R := by
  refine (callsIn_wide (n := n)).1 ⟨trivial, fun cs _ => ?_⟩
  let b : Frame := { (default : Frame) with fn := fid, kind := .normal, roundOf := none }
  have henter : Frame.enter P fid args .normal = b.atR { tmps := args ++ Array.replicate (fn.ntmps - args.size) undef, defers := [] } [.code c] := by
    simp [Frame.enter, Frame.atR, hf, hb, b]
  obtain ⟨e, a', w', hq, harr⟩ := h b [] cs rfl rfl
  rw [← henter] at harr
  cases e with
  | normal =>
    obtain ⟨e', w'', fr', hR, hs, hfn, hl⟩ := leaves_stepsInM (F := Fence.wide) (n := n) a'.defers .returning w' { b.atR a' [] with mode := .returning } cs rfl rfl rfl hf rfl trivial (room_wide _) hq
    exact ⟨e', w'', fr', hR, ComesIn.of_steps (StepsIn.trans harr (.one (fenced_wide P _) (stepR_end rfl))) hs, hfn, hl⟩
  | ret =>
    obtain ⟨todo, hs₀⟩ := harr.1 rfl
    obtain ⟨e', w'', fr', hR, hs, hfn, hl⟩ := leaves_stepsInM (F := Fence.wide) (n := n) a'.defers .returning w' { b.atR a' todo with mode := .returning } cs rfl rfl rfl hf rfl trivial (room_wide _) hq
    exact ⟨e', w'', fr', hR, ComesIn.of_steps hs₀ hs, hfn, hl⟩
  | panic chain =>
    obtain ⟨todo, hs₀⟩ := harr
    obtain ⟨e', w'', fr', hR, hs, hfn, hl⟩ := leaves_stepsInM (F := Fence.wide) (n := n) a'.defers (.panicking chain) w' { b.atR a' todo with mode := .panicking chain } cs rfl rfl rfl hf rfl trivial (room_wide _) hq
    exact ⟨e', w'', fr', hR, ComesIn.of_steps hs₀ hs, hfn, hl⟩
  | exit id => exact hq.elim
  | goto l => exact hq.elim
  | outgrown => exact ⟨.outgrown, w', b, hq, harr.resolve_left (by simp [b]), rfl, trivial⟩
end

end Go.Proofs.YtfdahpcpcjhggaaGreatDoor

/- The library's sequence of a text's parts, ranged over: whatever the rounds do, a panic of theirs let through. -/
namespace Go.Proofs.YtfdahpcpcjhggaaGreatDoor
open Go.RowKit Go.Shelf
set_option linter.unusedVariables false

def bytes (l : List UInt8) : ByteArray := ⟨l.toArray⟩

/-- A text's parts between commas. -/
def partsOf : List UInt8 → List (List UInt8)
  | [] => [[]]
  | c :: t =>
    if c = 44 then [] :: partsOf t
    else match partsOf t with
      | [] => [[c]]
      | p :: ps => (c :: p) :: ps

theorem partsOf_cons (c : UInt8) (t : List UInt8) : partsOf (c :: t) = if c = 44 then [] :: partsOf t else match partsOf t with
      | [] => [[c]]
      | p :: ps => (c :: p) :: ps := rfl

theorem partsOf_ne (l : List UInt8) : partsOf l ≠ [] := by
  cases l with
  | nil => simp [partsOf]
  | cons c t => unfold partsOf; split; simp; split <;> simp

theorem index_comma (c : UInt8) (t : List UInt8) : Lib.index (c :: t) [44] = if c = 44 then 0 else if Lib.index t [44] == -1 then -1 else Lib.index t [44] + 1 := by
  rw [Lib.index]
  by_cases h : c = 44
  · subst h; rfl
  · rw [if_neg h, if_neg (by simp [List.isPrefixOf]; exact fun e => h e.symm)]

theorem parts_none : ∀ (l : List UInt8), Lib.index l [44] < 0 → partsOf l = [l]
  | [], _ => rfl
  | c :: t, h => by
    rw [index_comma] at h
    by_cases hc : c = 44
    · rw [if_pos hc] at h; omega
    · rw [if_neg hc] at h
      have ht : Lib.index t [44] < 0 := by
        split at h
        · rename_i e; have : Lib.index t [44] = -1 := by simpa using e
          omega
        · omega
      unfold partsOf
      rw [if_neg hc, parts_none t ht]

theorem parts_some : ∀ (l : List UInt8) (i : Nat), Lib.index l [44] = (i : Int) → i < l.length ∧ partsOf l = l.take i :: partsOf (l.drop (i + 1))
  | [], i, h => by simp [Lib.index] at h
  | c :: t, i, h => by
    rw [index_comma] at h
    by_cases hc : c = 44
    · rw [if_pos hc] at h
      obtain rfl : i = 0 := by omega
      refine ⟨by simp, ?_⟩
      rw [partsOf_cons, if_pos hc]; rfl
    · rw [if_neg hc] at h
      split at h
      · omega
      · rename_i e
        have hge := Lib.index_ge t [44]
        have hne : Lib.index t [44] ≠ -1 := by simpa using e
        obtain ⟨j, hj⟩ := Int.eq_ofNat_of_zero_le (show 0 ≤ Lib.index t [44] by omega)
        obtain ⟨h1, h2⟩ := parts_some t j hj
        obtain rfl : i = j + 1 := by omega
        refine ⟨by simpa using h1, ?_⟩
        rw [partsOf, if_neg hc, h2]
        simp

/-- What a round leaves the iterator. -/
def IterKept (b1 b2 b3 : Nat) (W W' : World) : Prop :=
  ∀ b, b = b1 ∨ b = b2 ∨ b = b3 → W'.cell? ⟨b, 0, none⟩ = W.cell? ⟨b, 0, none⟩ ∧ W'.frozen? ⟨b, 0, none⟩ = W.frozen? ⟨b, 0, none⟩

def strLen (w : World) (b : Nat) : Nat := match w.cell? ⟨b, 0, none⟩ with
  | some (.string s) => s.size
  | _ => 0

/-- What the iterator asks of the rounds. -/
structure Rounds (F : Fence) (n : Nat) (l b1 b2 b3 : Nat) (ps : List (List UInt8)) (J : Nat → World → Prop) (Jp : List PanicEntry → World → Prop) : Prop where
  yields : ∀ (k : Nat) (p : List UInt8) (W : World), ps[k]? = some p → J k W → YieldAt F (n - 1) Tryz.prog l #[.string (bytes p)] W fun e W' =>
    (e = .returned (.bool true) ∧ J (k + 1) W' ∧ IterKept b1 b2 b3 W W') ∨ (∃ c, e = .panicked c ∧ Jp c W')
  store : ∀ (k : Nat) (W : World) (s : ByteArray), J k W → J k (W.setCell ⟨b2, 0, none⟩ (.string s))
  drew : ∀ (k : Nat) (W : World) (n : Nat), J k W → J k (W.drewN n)
  env : ∀ (k : Nat) (W : World), J k W → ∃ m, W.cell? ⟨7, 0, none⟩ = some (.int .i64 m)

/-- How it ends. -/
def IterEnds (N : Nat) (J : Nat → World → Prop) (Jp : List PanicEntry → World → Prop) (e : Ending) (w' : World) : Prop :=
  ((∃ v, e = .returned v) ∧ J N w') ∨ (∃ c, e = .panicked c ∧ Jp c w')

set_option maxHeartbeats 1600000 in
theorem split_iter (n : Nat) (hn : 1 ≤ n) (l b1 b2 b3 : Nat) (s : List UInt8) (hs : s.length ≤ 1000000) (J : Nat → World → Prop) (Jp : List PanicEntry → World → Prop)
    (hY : Rounds Fence.wide n l b1 b2 b3 (partsOf s) J Jp) (h12 : b1 ≠ b2) (h32 : b3 ≠ b2) (W : World)
    (c1 : W.cell? ⟨b1, 0, none⟩ = some (.string ⟨#[44]⟩)) (c2 : W.cell? ⟨b2, 0, none⟩ = some (.string (bytes s))) (c3 : W.cell? ⟨b3, 0, none⟩ = some (.int .i64 0))
    (z2 : W.frozen? ⟨b2, 0, none⟩ = false) (h0 : J 0 W) :
    CallsIn Fence.wide n Tryz.prog 89 #[.func (.yield l) #[] #[], .pointer (some ⟨b1, 0, none⟩), .pointer (some ⟨b2, 0, none⟩), .pointer (some ⟨b3, 0, none⟩)] W (IterEnds (partsOf s).length J Jp) := by
  have HY := Lib.hid hY
  have H0 := Lib.hid h0
  clear hY h0
  refine callsIn_of_wp Tryz.func89 rfl trivial ?_ rfl
  simp only [Tryz.ntmps89, List.size_toArray, List.length_cons, List.length_nil, Nat.reduceAdd, Nat.reduceSub, Array.replicate_succ, Array.replicate_zero, List.push_toArray, List.append_toArray, List.nil_append, List.cons_append]
  gi_wp2
  gi_loopw [7] (fun i wr => ∃ (k : Nat) (rest : List UInt8), partsOf rest = (partsOf s).drop k ∧ rest.length ≤ s.length ∧ wr.cell? ⟨b1, 0, none⟩ = some (.string ⟨#[44]⟩) ∧ wr.cell? ⟨b2, 0, none⟩ = some (.string (bytes rest)) ∧ wr.cell? ⟨b3, 0, none⟩ = some (.int .i64 0) ∧ wr.frozen? ⟨b2, 0, none⟩ = false ∧ J k wr)
    (fun i wr => strLen wr b2)
  case atStart => exact ⟨0, s, rfl, Nat.le_refl _, c1, c2, c3, z2, H0.out⟩
  case round =>
    obtain ⟨k, rest, hp, hl, c1, c2, c3, z2, hJ⟩ := hrel
    have HJ := Lib.hid hJ
    have HP := Lib.hid hp
    have hl6 : rest.length ≤ 1000000 := Nat.le_trans hl hs
    have hsz : (bytes rest).size = rest.length := by simp [bytes, ByteArray.size]
    have HSZ := Lib.hid hsz
    obtain ⟨m, hm⟩ := HY.out.env k wr hJ
    by_cases hix : Lib.index rest [44] < 0
    · have hone := parts_none rest hix
      have IX := Lib.hid (show Calls Tryz.prog 91 #[.string (bytes rest), .string ⟨#[44]⟩] wr fun e w' => e = .returned (.int .i64 (Lib.index rest [44])) ∧ w' = wr from Tryz.strings_Index (bytes rest) ⟨#[44]⟩ m wr (by omega) hm)
      have hk : (partsOf s)[k]? = some rest := by
        have := congrArg (fun x => x[0]?) hp
        rw [hone] at this
        simpa using this.symm
      have HN := Lib.hid (show k + 1 = (partsOf s).length by
        have := congrArg List.length hp
        rw [hone, List.length_drop] at this
        simp only [List.length_cons, List.length_nil] at this
        omega)
      obtain ⟨fn, tmps, assign, body, hy, hR⟩ := HY.out.yields k rest wr hk hJ
      have HR := Lib.hid hR
      obtain ⟨ix, hixe⟩ : ∃ ix, Lib.index rest [44] = ix := ⟨_, rfl⟩
      rw [hixe] at IX hix
      clear hm hJ hp hone hk hR hsz hixe
      gi_wp2_with (refine ⟨trivial, ?_⟩; gi_at_call 91; refine (callsIn_wide.2 IX.out).mono ?_; rintro e w' ⟨rfl, rfl⟩)
      refine HR.out.mono ?_
      rintro e W' (⟨rfl, hJ', hk'⟩ | ⟨c, rfl, hp'⟩)
      · have HJ' := Lib.hid hJ'
        clear hJ' hk'
        gi_wp2
        go_end0
        exact .inl ⟨⟨_, rfl⟩, by rw [← HN.out]; exact HJ'.out⟩
      · have HP' := Lib.hid hp'
        clear hp'
        gi_wp2
        exact ⟨rfl, .inr ⟨c, rfl, HP'.out⟩⟩
    · obtain ⟨i, hi⟩ := Int.eq_ofNat_of_zero_le (show 0 ≤ Lib.index rest [44] by omega)
      obtain ⟨hlt, hsome⟩ := parts_some rest i hi
      have IX := Lib.hid (show Calls Tryz.prog 91 #[.string (bytes rest), .string ⟨#[44]⟩] wr fun e w' => e = .returned (.int .i64 (i : Int)) ∧ w' = wr by
        have := Tryz.strings_Index (bytes rest) ⟨#[44]⟩ m wr (by omega) hm
        rw [show Lib.index (bytes rest).data.toList [44] = (i : Int) from hi] at this
        exact this)
      have hk : (partsOf s)[k]? = some (rest.take i) := by
        have := congrArg (fun x => x[0]?) hp
        rw [hsome] at this
        simpa using this.symm
      have HN := Lib.hid (show partsOf (rest.drop (i + 1)) = (partsOf s).drop (k + 1) by
        have := congrArg (fun x => x.drop 1) hp
        rw [hsome] at this
        simpa [List.drop_drop] using this)
      obtain ⟨fn, tmps, assign, body, hy, hR⟩ := HY.out.yields k (rest.take i) wr hk hJ
      have HR := Lib.hid hR
      have hfrag : (bytes rest).extract 0 i = bytes (rest.take i) := by
        apply Go.WideShapes.bytes_inj
        simp [bytes, ByteArray.data_extract]
      have hrest : (bytes rest).extract (i + 1) rest.length = bytes (rest.drop (i + 1)) := by
        apply Go.WideShapes.bytes_inj
        simp [bytes, ByteArray.data_extract, List.take_of_length_le]
      have HREST := Lib.hid hrest
      have HJ2 := Lib.hid HY.out.store
      clear hm hJ hp hsome hk hR hix hi hrest
      have hi1 : (i : Int) ≤ ((bytes rest).size : Int) := by rw [hsz]; omega
      gi_wp2_with (refine ⟨trivial, ?_⟩; gi_at_call 91; refine (callsIn_wide.2 IX.out).mono ?_; rintro e w' ⟨rfl, rfl⟩)
      refine HR.out.mono ?_
      rintro e W' (⟨rfl, hJ', hk'⟩ | ⟨c, rfl, hp'⟩)
      · have HJ' := Lib.hid hJ'
        obtain ⟨d1, y1⟩ := hk' b1 (.inl rfl)
        obtain ⟨d2, y2⟩ := hk' b2 (.inr (.inl rfl))
        obtain ⟨d3, y3⟩ := hk' b3 (.inr (.inr rfl))
        have e1 := d1.trans c1
        have e2 := d2.trans c2
        have e3 := d3.trans c3
        have x2 := y2.trans z2
        have hsz' := HSZ.out
        have hrest := HREST.out
        have hi2 : ((i : Int) + 1) ≤ ((bytes rest).size : Int) := by rw [hsz']; omega
        have hi3 : ((i : Int) + 1).toNat = i + 1 := by omega
        have E1 := Lib.hid e1
        have E2 := Lib.hid e2
        have E3 := Lib.hid e3
        have X2 := Lib.hid x2
        have C2 := Lib.hid c2
        clear hJ' hk' d1 d2 d3 y1 y2 y3 c1 c2 c3 z2
        gi_wp2
        go_roundw
        case rel =>
          exact ⟨k + 1, rest.drop (i + 1), HN.out, by rw [List.length_drop]; omega,
            by rw [World.cell?_setCell_other _ _ _ _ (by intro e; injection e with e; exact h12 e.symm)]; exact E1.out,
            World.cell?_setCell_same' _ _ _ (by rw [E2.out]; rfl),
            by rw [World.cell?_setCell_other _ _ _ _ (by intro e; injection e with e; exact h32 e.symm)]; exact E3.out,
            by rw [World.frozen?_setCell]; exact X2.out, HJ2.out _ _ _ HJ'.out⟩
        case measure =>
          unfold strLen
          rw [World.cell?_setCell_same' _ _ _ (by rw [E2.out]; rfl), C2.out]
          simp [bytes, ByteArray.size]
          omega
      · have HP' := Lib.hid hp'
        clear hp'
        gi_wp2
        exact ⟨rfl, .inr ⟨c, rfl, HP'.out⟩⟩

end Go.Proofs.YtfdahpcpcjhggaaGreatDoor

/- Strings cut, counted, cloned. -/
namespace Go.Proofs.YtfdahpcpcjhggaaGreatDoor
open Go.RowKit
set_option linter.unusedVariables false

/-- What the library leaves in memory that the calls read: a machine's measure. -/
structure Env (w : World) : Prop where
  most : ∃ m, w.cell? ⟨7, 0, none⟩ = some (.int .i64 m)
theorem Env.kept {w w' : World} (h : Env w) (k : Kept w w') : Env w' := by
  obtain ⟨m, hm⟩ := h
  exact ⟨m, cell_later k hm⟩
theorem bytes_size (p : List UInt8) : (bytes p).size = p.length := by simp [bytes, ByteArray.size]
theorem cut_any (c : UInt8) (p : List UInt8) (w : World) (hE : Env w) (hp : p.length ≤ 1000000) :
    Calls Tryz.prog 79 #[.string (bytes p), .string ⟨#[c]⟩] w fun e w' => e = .returned (.tuple #[.string (bytes (Lib.cut p [c]).1), .string (bytes (Lib.cut p [c]).2.1), .bool (Lib.cut p [c]).2.2]) ∧ ∃ n, w' = w.drewN n := by
  obtain ⟨m, hm⟩ := hE.most
  exact Tryz.strings_Cut (bytes p) ⟨#[c]⟩ m w (by rw [bytes_size]; omega) hm
theorem clone_any (s : ByteArray) (w : World) (h : s.size ≤ 281474976710656) :
    Calls Tryz.prog 82 #[.string s] w fun e w' => e = .returned (.string s) ∧ Kept w w' := by
  go_enter Tryz.func82, Tryz.ntmps82
  go_wp2_with fail
  refine (Tryz.stringslite_Clone s _ h).mono ?_
  rintro e w' ⟨rfl, k⟩
  go_wp2
  go_ret
  exact ⟨rfl, k⟩
end Go.Proofs.YtfdahpcpcjhggaaGreatDoor

/- 'for part := range SplitSeq(s, ",") { .. }' whose body may panic: one law. -/
namespace Go.Proofs.YtfdahpcpcjhggaaGreatDoor
open Go.RowKit Go.Shelf
set_option linter.unusedVariables false
attribute [local go_sem] Oper.semAt_some

/-- What the loop's own doings leave as it was: all blocks but the text's box b2 and the two records D, D + 1. -/
structure St (b2 D : Nat) (W W' : World) : Prop where
  os : W'.os = W.os
  tape : W'.tape = W.tape
  output : W'.output = W.output
  size : W.heap.size ≤ W'.heap.size
  block : ∀ b, b ≠ b2 → b ≠ D → b ≠ D + 1 → W'.heap[b]? = W.heap[b]?

theorem St.setCell {b2 D : Nat} (W : World) (v : Value) : St b2 D W (W.setCell ⟨b2, 0, none⟩ v) :=
  ⟨rfl, rfl, rfl, by show W.heap.size ≤ (W.heap.modify _ _).size; rw [Array.size_modify]; exact Nat.le_refl _, fun b h _ _ => Below.heap_setCell W ⟨b2, 0, none⟩ v b h⟩
theorem St.drewN {b2 D : Nat} (W : World) (n : Nat) : St b2 D W (W.drewN n) := ⟨rfl, rfl, rfl, Nat.le_refl _, fun _ _ _ _ => rfl⟩
theorem St.put {b2 D : Nat} (W : World) (o : Obj) : St b2 D W (W.putObj (D + 1) o) := ⟨rfl, rfl, rfl, by simp, fun b _ _ h => World.putObj_heap_other h⟩
theorem St.begin (b2 : Nat) (W : World) (o o' : Obj) : St b2 W.heap.size W ((W.alloc o).alloc o') :=
  ⟨rfl, rfl, rfl, by simp; omega, fun b _ h1 h2 => by
    by_cases h : b < W.heap.size
    · exact (Below.heap_alloc _ o' b (by simp; omega)).trans (Below.heap_alloc W o b h)
    · rw [Array.getElem?_eq_none (by simp; omega), Array.getElem?_eq_none (by omega)]⟩

/-- The blocks that a round must leave as they are. -/
def KeptAt (b1 b2 b3 D : Nat) (W W' : World) : Prop := ∀ b, b = b1 ∨ b = b2 ∨ b = b3 ∨ b = D ∨ b = D + 1 → W'.heap[b]? = W.heap[b]?
theorem KeptAt.trans {b1 b2 b3 D : Nat} {A B C : World} (h : KeptAt b1 b2 b3 D A B) (k : KeptAt b1 b2 b3 D B C) : KeptAt b1 b2 b3 D A C := fun b hb => (k b hb).trans (h b hb)
theorem KeptAt.drewN {b1 b2 b3 D : Nat} (W : World) (n : Nat) : KeptAt b1 b2 b3 D W (W.drewN n) := fun _ _ => rfl

/-- What the body is asked. -/
def BPost (b1 b2 b3 D k : Nat) (I : Nat → World → Prop) (JP : List PanicEntry → World → Prop) (W : World) : Exit → Act → World → Prop
  | .normal, _, W' => KeptAt b1 b2 b3 D W W' ∧ I (k + 1) W'
  | .panic c, a, W' => a.defers = [] ∧ KeptAt b1 b2 b3 D W W' ∧ JP c W'
  | _, _, _ => False

theorem iterKept_of {b1 b2 b3 : Nat} {W W' : World} (h : ∀ b, b = b1 ∨ b = b2 ∨ b = b3 → W'.heap[b]? = W.heap[b]?) : IterKept b1 b2 b3 W W' := fun b hb =>
  ⟨World.cell?_of_block (a := ⟨b, 0, none⟩) (h b hb), World.frozen?_of_block (a := ⟨b, 0, none⟩) (h b hb)⟩

set_option maxHeartbeats 1600000 in
theorem wpAt_split {g : Operand} {t : Tmp} {assign body : Code} {Q : Exit → Act → World → Prop} {a : Act} {w : World} {n fid : Nat} {fn : Func} (hfn : Tryz.prog.funcs[fid]? = some fn) (hn : 2 ≤ n)
    (b1 b2 b3 : Nat) (hg : a.eval g = .func (.func 89) #[] #[.pointer (some ⟨b1, 0, none⟩), .pointer (some ⟨b2, 0, none⟩), .pointer (some ⟨b3, 0, none⟩)])
    (s : List UInt8) (hs : s.length ≤ 1000000) (h12 : b1 ≠ b2) (h32 : b3 ≠ b2) (hb1 : b1 < w.heap.size) (hb2 : b2 < w.heap.size) (hb3 : b3 < w.heap.size)
    (c1 : w.cell? ⟨b1, 0, none⟩ = some (.string ⟨#[44]⟩)) (c2 : w.cell? ⟨b2, 0, none⟩ = some (.string (bytes s))) (c3 : w.cell? ⟨b3, 0, none⟩ = some (.int .i64 0)) (z2 : w.frozen? ⟨b2, 0, none⟩ = false)
    (I : Nat → World → Prop) (JP : List PanicEntry → World → Prop) (hI : ∀ k W W', I k W → St b2 w.heap.size W W' → I k W') (hE : ∀ k W, I k W → Env W) (h0 : I 0 w) (a₁ : ByteArray → Act)
    (hassign : ∀ (l : Nat) (x : ByteArray) (W : World) (K : Act → World → Prop), K (a₁ x) W →
      assign.wpIn (Fence.wide.inRound l) (n - 1) Tryz.prog (Exit.then K (fun _ _ _ => False)) { tmps := (#[t].zip #[Value.string x]).foldl (fun tt (p, v) => tt.setIfInBounds p v) a.tmps, defers := [] } W)
    (hbody : ∀ (l k : Nat) (p : List UInt8) (W : World), (partsOf s)[k]? = some p → I k W → w.heap.size + 2 ≤ W.heap.size → body.wpIn (Fence.wide.inRound l) (n - 1) Tryz.prog (BPost b1 b2 b3 w.heap.size k I JP W) (a₁ (bytes p)) W)
    (hdone : ∀ (W : World), I (partsOf s).length W → W.heap[w.heap.size]? = some (.deferred (some [])) → Q .normal { a with defers := { target := .collected w.heap.size, args := #[] } :: a.defers } W)
    (hpanic : ∀ (c : List PanicEntry) (W : World), JP c W → W.heap[w.heap.size]? = some (.deferred (some [])) → Q (.panic c) { a with defers := { target := .collected w.heap.size, args := #[] } :: a.defers } W) :
    WpAt fid Tryz.prog (Code.rangeFunc g #[t] assign body) Q a w := by
  obtain ⟨rec, hrec⟩ : ∃ rec : LoopState → Option Code → Loop, rec = fun st pe => { state := st, pending := pe, fn := fid, tmps := a.tmps, params := #[t], assign, body, defers := w.heap.size } := ⟨_, rfl⟩
  obtain ⟨W1, hW1⟩ : ∃ W1, (w.alloc (.deferred (some []))).alloc (.loop (rec .ready none)) = W1 := ⟨_, rfl⟩
  have hL1 : W1.heap[w.heap.size + 1]? = some (.loop (rec .ready none)) := by
    rw [← hW1]; have := World.alloc_heap_new (w.alloc (.deferred (some []))) (.loop (rec .ready none)); rwa [World.size_alloc] at this
  have hK1 : W1.heap[w.heap.size]? = some (.deferred (some [])) := by
    rw [← hW1]; exact (Below.heap_alloc _ _ _ (by simp)).trans (World.alloc_heap_new w _)
  have hS1 : St b2 w.heap.size w W1 := by rw [← hW1]; exact St.begin b2 w _ _
  have hB1 : Below w.heap.size w W1 := by rw [← hW1]; exact (kept_alloc w _).trans (kept_alloc _ _)
  refine wpAt_rangeFunc (n := n) (l := w.heap.size + 1) (mark := [{ target := .collected w.heap.size, args := #[] }]) (w₁ := W1) (d := { target := .fn (.func 89) #[.pointer (some ⟨b1, 0, none⟩), .pointer (some ⟨b2, 0, none⟩), .pointer (some ⟨b3, 0, none⟩)], args := #[.func (.yield (w.heap.size + 1)) #[] #[]] })
    (f := 89) (args := #[.func (.yield (w.heap.size + 1)) #[] #[], .pointer (some ⟨b1, 0, none⟩), .pointer (some ⟨b2, 0, none⟩), .pointer (some ⟨b3, 0, none⟩)]) ?_ ?_ ?_ ?_
  · rw [← hW1, hrec]; exact run_enterLoop_outer _ _ _ _ _
  · simp only [resolve, hg]
    simp [go_sem]
  · have eg := enters_of (P := Tryz.prog) Tryz.func89 (by kernel_rfl) rfl
    simp [invoke, go_sem, eg]
  · refine (split_iter n (by omega) (w.heap.size + 1) b1 b2 b3 s hs
      (fun k W => I k W ∧ W.heap[w.heap.size + 1]? = some (.loop (rec .ready none)) ∧ W.heap[w.heap.size]? = some (.deferred (some [])))
      (fun c W => JP c W ∧ W.heap[w.heap.size]? = some (.deferred (some [])))
      ⟨?_, ?_, ?_, ?_⟩ h12 h32 W1 ((hB1.cell (p := ⟨b1, 0, none⟩) hb1).trans c1) ((hB1.cell (p := ⟨b2, 0, none⟩) hb2).trans c2) ((hB1.cell (p := ⟨b3, 0, none⟩) hb3).trans c3)
      ((hB1.frozen (p := ⟨b2, 0, none⟩) hb2).trans z2) ⟨hI 0 w W1 h0 hS1, hL1, hK1⟩).mono ?_
    · rintro k p W hp ⟨hi, hl, hk⟩
      have hlt : w.heap.size + 1 < W.heap.size := (Array.getElem?_eq_some_iff.1 hl).1
      have hy := run_yield (P := Tryz.prog) (args := #[.string (bytes p)]) hl (by rw [hrec]; rfl)
      rw [hrec] at hy
      refine ⟨fid, _, assign, body, hy, roundIn_of_wpIn_panic trivial hfn ?_⟩
      refine hassign _ (bytes p) W _ ?_
      refine ⟨_, run_beginRound hl (by rw [hrec]), ?_⟩
      have hl2 : (W.putObj (w.heap.size + 1) (.loop { rec .ready none with state := .busy })).heap[w.heap.size + 1]? = some (.loop { rec .ready none with state := .busy }) := World.putObj_heap_same hlt
      have hk2 : (W.putObj (w.heap.size + 1) (.loop { rec .ready none with state := .busy })).heap[w.heap.size]? = some (.deferred (some [])) := (World.putObj_heap_other (by omega)).trans hk
      refine wpIn_mono (hbody _ k p _ hp (hI k _ _ hi (St.put W _)) (by simp; omega)) ?_
      rintro e a3 W3 hp3
      cases e with
      | normal =>
        obtain ⟨hk3, hi3⟩ := hp3
        have hl3 := (hk3 (w.heap.size + 1) (by simp)).trans hl2
        have hr := run_endRound (P := Tryz.prog) none hl3
        refine ⟨_, _, hr, .inl ⟨rfl, ⟨hI _ _ _ hi3 (St.put W3 _), ?_, ?_⟩, ?_⟩⟩
        · rw [World.putObj_heap_same (Array.getElem?_eq_some_iff.1 hl3).1, hrec]; rfl
        · exact ((World.putObj_heap_other (by omega)).trans (hk3 w.heap.size (by simp))).trans hk2
        · refine iterKept_of fun b hb => ?_
          have hbl : b ≠ w.heap.size + 1 := by rcases hb with h | h | h <;> omega
          exact ((World.putObj_heap_other hbl).trans (hk3 b (by rcases hb with h | h | h <;> simp [h]))).trans (World.putObj_heap_other hbl)
      | panic c =>
        obtain ⟨hd, hk3, hj⟩ := hp3
        exact ⟨hd, .inr ⟨c, rfl, hj, (hk3 w.heap.size (by simp)).trans hk2⟩⟩
      | ret => exact hp3.elim
      | exit id => exact hp3.elim
      | goto t => exact hp3.elim
      | outgrown => exact hp3.elim
    · rintro k W x ⟨hi, hl, hk⟩
      exact ⟨hI _ _ _ hi (St.setCell W _), (Below.heap_setCell W ⟨b2, 0, none⟩ _ _ (by simp; omega)).trans hl, (Below.heap_setCell W ⟨b2, 0, none⟩ _ _ (by simp; omega)).trans hk⟩
    · rintro k W m ⟨hi, hl, hk⟩
      exact ⟨hI _ _ _ hi (St.drewN W _), hl, hk⟩
    · rintro k W ⟨hi, _, _⟩
      exact (hE k W hi).most
    · rintro e W2 (⟨⟨v, rfl⟩, hi, hl, hk⟩ | ⟨c, rfl, hj, hk⟩)
      · exact ⟨_, run_endLoop (P := Tryz.prog) hl (by rw [hrec]; simp) |>.trans (by rw [hrec]), hdone _ (hI _ _ _ hi (St.put W2 _)) ((World.putObj_heap_other (by omega)).trans hk)⟩
      · exact hpanic c W2 hj hk

end Go.Proofs.YtfdahpcpcjhggaaGreatDoor

/- parsed, what both kinds share: the boxes of a range over the parts, the row under way. -/
namespace Go.Proofs.YtfdahpcpcjhggaaGreatDoor
open Go.RowKit Go.Shelf
set_option linter.unusedVariables false
attribute [local go_sem] Oper.semAt_some

/-- The world behind SplitSeq: three boxes more. -/
def boxes (w : World) (s : List UInt8) : World := ((w.alloc (.cells #[.string (bytes s)] 9)).alloc (.cells #[.string ⟨#[44]⟩] 9)).alloc (.cells #[.int .i64 0] 3)

theorem splitseq_any (s : List UInt8) (w : World) :
    Calls Tryz.prog 68 #[.string (bytes s), .string ⟨#[44]⟩] w fun e w' =>
      e = .returned (.func (.func 89) #[] #[.pointer (some ⟨w.heap.size + 1, 0, none⟩), .pointer (some ⟨w.heap.size, 0, none⟩), .pointer (some ⟨w.heap.size + 2, 0, none⟩)]) ∧ w' = boxes w s := by
  have hmf : ∀ (fn : Fn) (first cap : Array Value) (w : World), (Instr.makeFunc fn first cap).run Tryz.prog w = .ok (.func fn first cap) w := fun _ _ _ _ => rfl
  go_enter Tryz.func68, Tryz.ntmps68
  go_wp2
  go_ret
  exact ⟨rfl, rfl⟩

theorem boxes_size (w : World) (s : List UInt8) : (boxes w s).heap.size = w.heap.size + 3 := by simp [boxes]
theorem boxes_kept (w : World) (s : List UInt8) : Kept w (boxes w s) := ((kept_alloc w _).trans (kept_alloc _ _)).trans (kept_alloc _ _)
theorem boxes_cells (w : World) (s : List UInt8) : (boxes w s).cell? ⟨w.heap.size + 1, 0, none⟩ = some (.string ⟨#[44]⟩) ∧ (boxes w s).cell? ⟨w.heap.size, 0, none⟩ = some (.string (bytes s)) ∧ (boxes w s).cell? ⟨w.heap.size + 2, 0, none⟩ = some (.int .i64 0) ∧ (boxes w s).frozen? ⟨w.heap.size, 0, none⟩ = false := by
  unfold boxes
  refine ⟨?_, ?_, ?_, ?_⟩ <;> go_simp

theorem Below.st {B b2 D : Nat} {w W W' : World} (h : Below B w W) (k : St b2 D W W') (h2 : B ≤ b2) (hD : B ≤ D) : Below B w W' :=
  ⟨k.os.trans h.os, k.tape.trans h.tape, k.output.trans h.output, Nat.le_trans h.size k.size, fun b hb => (k.block b (by omega) (by omega) (by omega)).trans (h.block b hb)⟩
theorem below_put {B D : Nat} {w W : World} {o : Obj} (h : Below B w W) (hD : B ≤ D) : Below B w (W.putObj D o) :=
  ⟨h.os, h.tape, h.output, by rw [World.putObj_size]; exact h.size, fun b hb => (World.putObj_heap_other (by omega)).trans (h.block b hb)⟩
theorem Own.st {α : Type} {L : Lay α} {e : TypeId} {b2 D : Nat} {W W' : World} {v : Value} {l : List α} (h : Own L e W (D + 2) v l) (k : St b2 D W W') (h2 : b2 < D) : Own L e W' (D + 2) v l := by
  obtain ⟨⟨h0, h1⟩, hf⟩ := h
  refine ⟨⟨h0, h1.imp id ?_⟩, hf⟩
  rintro ⟨g, cap, cur, rfl, hbg, hg, hn, hm, hs, ht⟩
  exact ⟨g, cap, cur, rfl, hbg, (k.block g (by omega) (by omega) (by omega)).trans hg, hn, hm, hs, ht⟩
theorem Own.row {α : Type} {L : Lay α} {e : TypeId} {w : World} {B n : Nat} {v : Value} {l : List α} (h : Own L e w B v l) (hn : l.length = n) : w.ownsRow B e L.m v n (rowCells L l) := hn ▸ h.1

theorem box_new (W : World) (v : Value) (T : TypeId) : (W.alloc (.cells #[v] T)).cell? ⟨W.heap.size, 0, none⟩ = some v ∧ (W.alloc (.cells #[v] T)).frozen? ⟨W.heap.size, 0, none⟩ = false := by
  constructor <;> go_simp

/-- The box of the row under way. -/
def VBox {α : Type} (L : Lay α) (e : TypeId) (B vb : Nat) (l : List α) (W : World) : Prop := ∃ v, W.cell? ⟨vb, 0, none⟩ = some v ∧ W.frozen? ⟨vb, 0, none⟩ = false ∧ Own L e W B v l
theorem VBox.st {α : Type} {L : Lay α} {e : TypeId} {b2 D vb : Nat} {W W' : World} {l : List α} {B : Nat} (h : VBox L e B vb l W) (k : St b2 D W W') (hB : B = D + 2) (hvb : vb < b2) (h2 : b2 < D) : VBox L e B vb l W' := by
  subst hB
  obtain ⟨v, h1, h3, h4⟩ := h
  have hb := k.block vb (by omega) (by omega) (by omega)
  exact ⟨v, (World.cell?_of_block (a := ⟨vb, 0, none⟩) hb).trans h1, (World.frozen?_of_block (a := ⟨vb, 0, none⟩) hb).trans h3, h4.st k h2⟩
theorem part_len : ∀ (s : List UInt8) (p : List UInt8), p ∈ partsOf s → p.length ≤ s.length
  | [], p, h => by
    have : p = [] := by simpa [partsOf] using h
    subst this; simp
  | c :: t, p, h => by
    rw [partsOf_cons] at h
    split at h
    · rcases List.mem_cons.1 h with rfl | h
      · simp
      · have := part_len t p h; simp; omega
    · cases hp : partsOf t with
      | nil => exact absurd hp (partsOf_ne t)
      | cons q qs =>
        rw [hp] at h
        rcases List.mem_cons.1 h with rfl | h
        · have := part_len t q (by rw [hp]; simp); simp; omega
        · have := part_len t p (by rw [hp]; simp [h]); simp; omega

/-- What a call answers that makes a row, or panics. -/
def RowRes {α : Type} (L : Lay α) (e : TypeId) (r : Int × List α) (base : Nat) (w : World) (en : Ending) (w' : World) : Prop :=
  (r.1 = 0 → ∃ v, en = .returned v ∧ Own L e w' base v r.2) ∧ (r.1 ≠ 0 → en = .panicked [perr r.1]) ∧ Below base w w'
theorem RowRes.good {α : Type} {L : Lay α} {e : TypeId} {r : Int × List α} {base : Nat} {w w' : World} {v : Value} (h : r.1 = 0) (ho : Own L e w' base v r.2) (hb : Below base w w') : RowRes L e r base w (.returned v) w' := ⟨fun _ => ⟨v, rfl, ho⟩, fun g => absurd h g, hb⟩
theorem RowRes.bad {α : Type} {L : Lay α} {e : TypeId} {r : Int × List α} {base : Nat} {w w' : World} {c : Int} (h : r.1 = c) (hc : c ≠ 0) (hb : Below base w w') : RowRes L e r base w (.panicked [perr c]) w' := ⟨fun g => absurd (h.symm.trans g) hc, fun _ => by rw [h], hb⟩

end Go.Proofs.YtfdahpcpcjhggaaGreatDoor

/- The reference's Split: a text's parts, between a byte. -/
namespace Go.Proofs.YtfdahpcpcjhggaaGreatDoor
open Go.RowKit
set_option linter.unusedVariables false

end Go.Proofs.YtfdahpcpcjhggaaGreatDoor

/- A text cut, its parts. -/
namespace Go.Proofs.YtfdahpcpcjhggaaGreatDoor
open Go.RowKit
set_option linter.unusedVariables false

end Go.Proofs.YtfdahpcpcjhggaaGreatDoor

/- Joined parts are parted again. -/
namespace Go.Proofs.YtfdahpcpcjhggaaGreatDoor
open Go.RowKit
set_option linter.unusedVariables false

end Go.Proofs.YtfdahpcpcjhggaaGreatDoor
