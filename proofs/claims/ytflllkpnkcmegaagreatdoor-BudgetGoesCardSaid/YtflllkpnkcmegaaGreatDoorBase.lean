/- What serves all packages: rows of plain structs, names, lists in words, joined and parted. -/
import Derived.Shelf.Strings.Builder1
import Derived.Shelf.Strings.Builder2
import Derived.Shelf.Strings.OnBuilder
import Derived.Shelf.Small.Wraps
import Derived.Shelf.Utf8.RuneCount
import Derived.Shelf.Strconv.Itoa0
import Derived.Shelf.Strconv.Itoa1
import Derived.Shelf.LaysM
import Derived.Shelf.Strconv.Itoa2
import Derived.Shelf.Strconv.Itoa3
import Derived.Shelf.Strconv.Itoa4
import Derived.Shelf.Strconv.ParseIntEmpty
import Derived.Shelf.Strconv.Clone
import Derived.Shelf.Strconv.SyntaxError
import Derived.Shelf.LaysC
import Derived.Shelf.Strconv.ToError
import Derived.Shelf.Strconv.Lower
import Derived.Shelf.Strconv.ParseUint10
import Derived.Shelf.Strconv.ParseUint10Empty
import Derived.Shelf.Strconv.ParseUint10Any
import Derived.Shelf.Strconv.ParseInt10
import Derived.Shelf.Strconv.RangeError
import Derived.Shelf.Strconv.ToErrorRange
import Derived.Shelf.Strconv.ParseUintEmpty
import Derived.Shelf.Strconv.ParseUint10b64
import Derived.Shelf.Strconv.ParseUint10b32
import Derived.Shelf.Strconv.ParseUint10b16
import Derived.Shelf.Strconv.ParseUint10b8
import Derived.Shelf.Strconv.ParseUint10At
import Derived.Shelf.Strconv.ParseInt10At64
import Derived.Shelf.Strconv.ParseInt10At32
import Derived.Shelf.Strconv.ParseInt10At16
import Derived.Shelf.Strconv.ParseInt10At8
import Derived.Shelf.Strconv.ParseInt10All
import Derived.Shelf.Strconv.ParseIntPublic10
import Derived.Shelf.Strconv.ErrVarParseInt
import Derived.Shelf.Strings.Search1
import Derived.Shelf.Strings.Search2
import Derived.Shelf.Strings.Search3
import Derived.Shelf.Strings.Cut
import Derived.Shelf.Strings.Count
import Derived.Shelf.Strings.Shaped
import Derived.Shelf.Strings.Prefix
import Derived.Shelf.Strings.Split
import Derived.Shelf.Unicode.DecodeSlow
import Derived.Test.YtflllkpnkcmegaaGreatDoorProg
import Derived.RowKit
import Derived.WalkKit
import Derived.WalkLawsBesides
import Derived.WalkSpells
import Derived.BigQuiet
import Derived.Deep.QuietTactic
import Derived.Lib.Hide
import Derived.Lib.Strings
import Derived.Below
import Derived.LoopTactic
import Derived.Laws.OwnMore
import Derived.Deep.AppendLies
import Derived.RangeFuncRecord
import Derived.OwnWalk
import Derived.WideShapes
import Derived.Sort.Grow
import Derived.Shelf.SlSortCmp.QuietGrown
import Derived.Lib.AppendIntMem
import Derived.Lib.Join
import Derived.RangeFuncIn
import Derived.RangeFuncCalls
import Derived.RangeFuncLeaves
import Derived.RangeFuncNested
import Derived.RangeFuncBound
import Derived.Shelf.Abstract
import Derived.Shelf.RegionOpen
import Derived.OwnWalkIn
import Derived.TacticsInMore
import Derived.LoopNIn
import Derived.LoopIn
import Derived.Deep.AppendSrc
import Derived.Deep.DeepAppendWide
import Derived.Test.YtflllkpnkcmegaaGreatDoorRows
import Derived.ProofKit
import Derived.OpenShut
import Derived.ChangeOld
import Derived.ChangeMaps5
import Derived.Deep.Slices
import Derived.Deep.Fields
import Derived.ChangeSame
import Derived.Lib.LaidTab
import Derived.Stop.Joined
import Derived.Shelf.Vars
import Derived.MakeChecks
import Derived.LaidLaws
import Derived.RowKitTokens
import Derived.Lib.Split
import Derived.Laws.IdiomCopy

/- The contracts of library functions that this program calls, each one application of the given library. -/
namespace Go.Proofs
open Go.Shelf
def Tryz.lays156_ren : Go.Shelf.Ren := ⟨fun | 156 => 130 | 165 => 177 | 166 => 132 | 169 => 134 | 240 => 179 | 241 => 199 | 276 => 204 | 277 => 216 | n => n, fun | 31 => 80 | 9 => 9 | 3 => 3 | 4 => 4 | 0 => 0 | 20 => 20 | 72 => 188 | 76 => 191 | 70 => 186 | 37 => 85 | 75 => 190 | 127 => 232 | 164 => 252 | 5 => 5 | 80 => 194 | n => n, fun | n => n⟩
theorem Tryz.lays156 : Go.Proofs.Lays.n156 Tryz.prog Tryz.lays156_ren := {
  mixed := by kernel_rfl
  f156 := Tryz.func130.trans (congrArg some (by kernel_rfl))
  f165 := Tryz.func177.trans (congrArg some (by kernel_rfl))
  f166 := Tryz.func132.trans (congrArg some (by kernel_rfl))
  f169 := Tryz.func134.trans (congrArg some (by kernel_rfl))
  f240 := Tryz.func179.trans (congrArg some (by kernel_rfl))
  f241 := Tryz.func199.trans (congrArg some (by kernel_rfl))
  f276 := Tryz.func204.trans (congrArg some (by kernel_rfl))
  f277 := Tryz.func216.trans (congrArg some (by kernel_rfl))
  t0 := Tryz.underlying0
  a0 := Tryz.isAgg0
  z0 := Tryz.sizeOf0
  v0 := Tryz.zeroValue0
  t3 := Tryz.underlying3
  a3 := Tryz.isAgg3
  z3 := Tryz.sizeOf3
  v3 := Tryz.zeroValue3
  t4 := Tryz.underlying4
  a4 := Tryz.isAgg4
  z4 := Tryz.sizeOf4
  v4 := Tryz.zeroValue4
  t9 := Tryz.underlying9
  a9 := Tryz.isAgg9
  z9 := Tryz.sizeOf9
  v9 := Tryz.zeroValue9
  t20 := Tryz.underlying20
  a20 := Tryz.isAgg20
  z20 := Tryz.sizeOf20
  v20 := Tryz.zeroValue20
  t31 := Tryz.underlying80
  a31 := Tryz.isAgg80
  z31 := Tryz.sizeOf80
  v31 := Tryz.zeroValue80
  t37 := Tryz.underlying85
  a37 := Tryz.isAgg85
  z37 := Tryz.sizeOf85
  v37 := Tryz.zeroValue85
  t70 := Tryz.underlying186
  a70 := Tryz.isAgg186
  z70 := Tryz.sizeOf186
  v70 := Tryz.zeroValue186
  t72 := Tryz.underlying188
  a72 := Tryz.isAgg188
  z72 := Tryz.sizeOf188
  v72 := Tryz.zeroValue188
  t75 := Tryz.underlying190
  a75 := Tryz.isAgg190
  z75 := Tryz.sizeOf190
  v75 := Tryz.zeroValue190
  t76 := Tryz.underlying191
  a76 := Tryz.isAgg191
  z76 := Tryz.sizeOf191
  v76 := Tryz.zeroValue191
  t127 := Tryz.underlying232
  a127 := Tryz.isAgg232
  z127 := Tryz.sizeOf232
  v127 := Tryz.zeroValue232
  t164 := Tryz.underlying252
  a164 := Tryz.isAgg252
  z164 := Tryz.sizeOf252
  v164 := Tryz.zeroValue252 }
theorem Tryz.Builder_Extra_156 : Builder.Extra Tryz.prog Tryz.lays156_ren := {
  sizeBuilder := by kernel_rfl
  liesBuilder := by kernel_rfl
  t5 := Tryz.underlying5
  a5 := Tryz.isAgg5
  z5 := Tryz.sizeOf5
  v5 := Tryz.zeroValue5
  infoByte := by kernel_rfl
  cellsByte := by kernel_rfl
  sizeByte := by kernel_rfl
  neB5 := by decide }
open Go.RowKit in
theorem Tryz.strings_Join (bk o c : Nat) (xs : List ByteArray) (sep : ByteArray) (w : World) (hcells : ∀ (j : Nat) x, xs[j]? = some x → w.cell? ⟨bk, o + j, none⟩ = some (.string x)) (hbk : bk < w.heap.size) (hN : xs.length ≤ 140737488355328) (hcap : xs.length ≤ c) (hlen : (Lib.join (xs.map (·.data.toList)) sep.data.toList).length ≤ 140737488355328) :
    Calls Tryz.prog 130 #[.slice (some ⟨bk, o, none⟩) xs.length c, .string sep] w fun e w' => e = .returned (.string ⟨(Lib.join (xs.map (·.data.toList)) sep.data.toList).toArray⟩) ∧ Below w.heap.size w w' := Any.strings_Join Tryz.lays156 Tryz.Builder_Extra_156 bk o c xs sep w hcells hbk hN hcap hlen
def Tryz.lays103_ren : Go.Shelf.Ren := ⟨fun | 103 => 196 | 210 => 214 | 206 => 215 | n => n, fun | 9 => 9 | 4 => 4 | 24 => 76 | 3 => 3 | n => n, fun | n => n⟩
theorem Tryz.lays103 : Go.Proofs.Lays.n103 Tryz.prog Tryz.lays103_ren := {
  mixed := by kernel_rfl
  f103 := Tryz.func196.trans (congrArg some (by kernel_rfl))
  f206 := Tryz.func215.trans (congrArg some (by kernel_rfl))
  f210 := Tryz.func214.trans (congrArg some (by kernel_rfl))
  t3 := Tryz.underlying3
  a3 := Tryz.isAgg3
  z3 := Tryz.sizeOf3
  v3 := Tryz.zeroValue3
  t4 := Tryz.underlying4
  a4 := Tryz.isAgg4
  z4 := Tryz.sizeOf4
  v4 := Tryz.zeroValue4
  t9 := Tryz.underlying9
  a9 := Tryz.isAgg9
  z9 := Tryz.sizeOf9
  v9 := Tryz.zeroValue9
  t24 := Tryz.underlying76
  a24 := Tryz.isAgg76
  z24 := Tryz.sizeOf76
  v24 := Tryz.zeroValue76 }
open Go.RowKit in
theorem Tryz.strings_CutPrefix (s p : ByteArray) (w : World) :
    Calls Tryz.prog 196 #[.string s, .string p] w fun e w' => e = .returned (.tuple #[.string ⟨(Lib.trimPrefix s.data.toList p.data.toList).toArray⟩, .bool (Lib.hasPrefix s.data.toList p.data.toList)]) ∧ w' = w := Any.strings_CutPrefix Tryz.lays103 s p w
def Tryz.laysM171_ren : Go.Shelf.Ren := ⟨fun | 171 => 79 | 243 => 131 | 246 => 178 | 283 => 200 | 284 => 201 | 285 => 202 | 286 => 203 | 129 => 218 | 317 => 217 | 318 => 219 | 319 => 220 | 320 => 221 | 337 => 233 | 338 => 234 | n => n, fun | 3 => 3 | 9 => 9 | 2 => 2 | 4 => 4 | 171 => 246 | 0 => 0 | 53 => 247 | 37 => 85 | 5 => 5 | 173 => 250 | 212 => 261 | 51 => 262 | 20 => 20 | 213 => 263 | 46 => 264 | 232 => 281 | 233 => 282 | n => n, fun | 17 => 0 | 18 => 4 | 19 => 5 | n => n⟩
theorem Tryz.laysM171 : Go.Proofs.LaysM.n171 Tryz.prog Tryz.laysM171_ren := {
  mixed := by kernel_rfl
  f129 := Tryz.func218.trans (congrArg some (by kernel_rfl))
  f171 := Tryz.func79.trans (congrArg some (by kernel_rfl))
  f243 := Tryz.func131.trans (congrArg some (by kernel_rfl))
  f246 := Tryz.func178.trans (congrArg some (by kernel_rfl))
  f283 := Tryz.func200.trans (congrArg some (by kernel_rfl))
  f284 := Tryz.func201.trans (congrArg some (by kernel_rfl))
  f285 := Tryz.func202.trans (congrArg some (by kernel_rfl))
  f286 := Tryz.func203.trans (congrArg some (by kernel_rfl))
  f317 := Tryz.func217.trans (congrArg some (by kernel_rfl))
  f318 := Tryz.func219.trans (congrArg some (by kernel_rfl))
  f319 := Tryz.func220.trans (congrArg some (by kernel_rfl))
  f320 := Tryz.func221.trans (congrArg some (by kernel_rfl))
  f337 := Tryz.func233.trans (congrArg some (by kernel_rfl))
  f338 := Tryz.func234.trans (congrArg some (by kernel_rfl))
  t0 := Tryz.underlying0
  a0 := Tryz.isAgg0
  z0 := Tryz.sizeOf0
  v0 := Tryz.zeroValue0
  t2 := Tryz.underlying2
  a2 := Tryz.isAgg2
  z2 := Tryz.sizeOf2
  v2 := Tryz.zeroValue2
  t3 := Tryz.underlying3
  a3 := Tryz.isAgg3
  z3 := Tryz.sizeOf3
  v3 := Tryz.zeroValue3
  t4 := Tryz.underlying4
  a4 := Tryz.isAgg4
  z4 := Tryz.sizeOf4
  v4 := Tryz.zeroValue4
  t5 := Tryz.underlying5
  a5 := Tryz.isAgg5
  z5 := Tryz.sizeOf5
  v5 := Tryz.zeroValue5
  t9 := Tryz.underlying9
  a9 := Tryz.isAgg9
  z9 := Tryz.sizeOf9
  v9 := Tryz.zeroValue9
  t20 := Tryz.underlying20
  a20 := Tryz.isAgg20
  z20 := Tryz.sizeOf20
  v20 := Tryz.zeroValue20
  t37 := Tryz.underlying85
  a37 := Tryz.isAgg85
  z37 := Tryz.sizeOf85
  v37 := Tryz.zeroValue85
  t46 := Tryz.underlying264
  a46 := Tryz.isAgg264
  z46 := Tryz.sizeOf264
  v46 := Tryz.zeroValue264
  t51 := Tryz.underlying262
  a51 := Tryz.isAgg262
  z51 := Tryz.sizeOf262
  v51 := Tryz.zeroValue262
  t53 := Tryz.underlying247
  a53 := Tryz.isAgg247
  z53 := Tryz.sizeOf247
  v53 := Tryz.zeroValue247
  t171 := Tryz.underlying246
  a171 := Tryz.isAgg246
  z171 := Tryz.sizeOf246
  v171 := Tryz.zeroValue246
  t173 := Tryz.underlying250
  a173 := Tryz.isAgg250
  z173 := Tryz.sizeOf250
  v173 := Tryz.zeroValue250
  t212 := Tryz.underlying261
  a212 := Tryz.isAgg261
  z212 := Tryz.sizeOf261
  v212 := Tryz.zeroValue261
  t213 := Tryz.underlying263
  a213 := Tryz.isAgg263
  z213 := Tryz.sizeOf263
  t232 := Tryz.underlying281
  a232 := Tryz.isAgg281
  z232 := Tryz.sizeOf281
  v232 := Tryz.zeroValue281
  t233 := Tryz.underlying282
  a233 := Tryz.isAgg282
  z233 := Tryz.sizeOf282
  v233 := Tryz.zeroValue282
  g17 := by kernel_rfl
  g18 := by kernel_rfl
  g19 := by kernel_rfl
  i0 := by kernel_rfl
  i2 := by kernel_rfl
  i3 := by kernel_rfl
  i4 := by kernel_rfl
  i5 := by kernel_rfl
  i9 := by kernel_rfl
  i20 := by kernel_rfl
  i37 := by kernel_rfl
  i46 := by kernel_rfl
  i51 := by kernel_rfl
  i53 := by kernel_rfl
  i171 := by kernel_rfl
  i173 := by kernel_rfl
  i212 := by kernel_rfl
  i232 := by kernel_rfl
  i233 := by kernel_rfl
  m17 := by kernel_rfl
  m18 := by kernel_rfl
  m19 := by kernel_rfl }
open Go.RowKit Go.Sort Go.Lib in
theorem Tryz.strconv_Itoa (n : Int) (h0 : -9223372036854775808 ≤ n) (h1 : n ≤ 9223372036854775807) (w : World) (htab : Lib.TabIs Tryz.prog w "internal/strconv.uint64pow10" .u64 Lib.pow10Tab) :
    Calls Tryz.prog 79 #[.int .i64 n] w fun e w' => e = .returned (.string ⟨(Lib.itoa n).toArray⟩) ∧ ∃ k os, w' = grow (w.drewN k) os := Any.strconv_Itoa Tryz.laysM171 n h0 h1 w htab
def Tryz.laysM316_ren : Go.Shelf.Ren := ⟨fun | 316 => 162 | n => n, fun | 9 => 9 | 3 => 3 | 4 => 4 | 37 => 85 | 0 => 0 | 127 => 232 | 5 => 5 | n => n, fun | n => n⟩
theorem Tryz.laysM316 : Go.Proofs.LaysM.n316 Tryz.prog Tryz.laysM316_ren := {
  mixed := by kernel_rfl
  f316 := Tryz.func162.trans (congrArg some (by kernel_rfl))
  t0 := Tryz.underlying0
  a0 := Tryz.isAgg0
  z0 := Tryz.sizeOf0
  v0 := Tryz.zeroValue0
  t3 := Tryz.underlying3
  a3 := Tryz.isAgg3
  z3 := Tryz.sizeOf3
  v3 := Tryz.zeroValue3
  t4 := Tryz.underlying4
  a4 := Tryz.isAgg4
  z4 := Tryz.sizeOf4
  v4 := Tryz.zeroValue4
  t9 := Tryz.underlying9
  a9 := Tryz.isAgg9
  z9 := Tryz.sizeOf9
  v9 := Tryz.zeroValue9
  t37 := Tryz.underlying85
  a37 := Tryz.isAgg85
  z37 := Tryz.sizeOf85
  v37 := Tryz.zeroValue85
  t127 := Tryz.underlying232
  a127 := Tryz.isAgg232
  z127 := Tryz.sizeOf232
  v127 := Tryz.zeroValue232
  t5 := Tryz.underlying5
  a5 := Tryz.isAgg5
  z5 := Tryz.sizeOf5
  v5 := Tryz.zeroValue5
  i0 := by kernel_rfl
  i3 := by kernel_rfl
  i4 := by kernel_rfl
  i5 := by kernel_rfl
  i9 := by kernel_rfl
  i37 := by kernel_rfl
  i127 := by kernel_rfl }
open Go.RowKit in
theorem Tryz.stringslite_Clone (s : ByteArray) (w : World) (hlim : s.size ≤ 281474976710656) :
    Calls Tryz.prog 162 #[.string s] w fun e w' => e = .returned (.string s) ∧ Below w.heap.size w w' := Any.stringslite_Clone Tryz.laysM316 s w hlim
def Tryz.laysC174_ren : Go.Shelf.Ren := ⟨fun | 174 => 185 | 247 => 208 | 245 => 209 | 287 => 223 | 279 => 224 | 280 => 225 | 281 => 226 | 282 => 227 | 321 => 236 | 322 => 237 | 316 => 162 | 171 => 79 | 205 => 238 | 243 => 131 | 246 => 178 | 283 => 200 | 284 => 201 | 285 => 202 | 286 => 203 | 129 => 218 | 317 => 217 | 318 => 219 | 319 => 220 | 320 => 221 | 337 => 233 | 338 => 234 | n => n, fun | 9 => 9 | 3 => 3 | 2 => 2 | 75 => 190 | 85 => 237 | 4 => 4 | 167 => 268 | 5 => 5 | 53 => 247 | 175 => 269 | 46 => 264 | 168 => 271 | 37 => 85 | 0 => 0 | 210 => 277 | 21 => 21 | 127 => 232 | 145 => 289 | 143 => 287 | 171 => 246 | 173 => 250 | 212 => 261 | 51 => 262 | 20 => 20 | 213 => 263 | 232 => 281 | 233 => 282 | 80 => 194 | n => n, fun | 15 => 2 | 16 => 3 | 17 => 0 | 18 => 4 | 19 => 5 | n => n⟩
theorem Tryz.laysC174 : Go.Proofs.LaysC.n174 Tryz.prog Tryz.laysC174_ren := {
  mixed := by kernel_rfl
  f129 := Tryz.func218.trans (congrArg some (by kernel_rfl))
  f171 := Tryz.func79.trans (congrArg some (by kernel_rfl))
  f174 := Tryz.func185.trans (congrArg some (by kernel_rfl))
  f205 := Tryz.func238.trans (congrArg some (by kernel_rfl))
  f243 := Tryz.func131.trans (congrArg some (by kernel_rfl))
  f245 := Tryz.func209.trans (congrArg some (by kernel_rfl))
  f246 := Tryz.func178.trans (congrArg some (by kernel_rfl))
  f247 := Tryz.func208.trans (congrArg some (by kernel_rfl))
  f279 := Tryz.func224.trans (congrArg some (by kernel_rfl))
  f280 := Tryz.func225.trans (congrArg some (by kernel_rfl))
  f281 := Tryz.func226.trans (congrArg some (by kernel_rfl))
  f282 := Tryz.func227.trans (congrArg some (by kernel_rfl))
  f283 := Tryz.func200.trans (congrArg some (by kernel_rfl))
  f284 := Tryz.func201.trans (congrArg some (by kernel_rfl))
  f285 := Tryz.func202.trans (congrArg some (by kernel_rfl))
  f286 := Tryz.func203.trans (congrArg some (by kernel_rfl))
  f287 := Tryz.func223.trans (congrArg some (by kernel_rfl))
  f316 := Tryz.func162.trans (congrArg some (by kernel_rfl))
  f317 := Tryz.func217.trans (congrArg some (by kernel_rfl))
  f318 := Tryz.func219.trans (congrArg some (by kernel_rfl))
  f319 := Tryz.func220.trans (congrArg some (by kernel_rfl))
  f320 := Tryz.func221.trans (congrArg some (by kernel_rfl))
  f321 := Tryz.func236.trans (congrArg some (by kernel_rfl))
  f322 := Tryz.func237.trans (congrArg some (by kernel_rfl))
  f337 := Tryz.func233.trans (congrArg some (by kernel_rfl))
  f338 := Tryz.func234.trans (congrArg some (by kernel_rfl))
  t0 := Tryz.underlying0
  a0 := Tryz.isAgg0
  z0 := Tryz.sizeOf0
  v0 := Tryz.zeroValue0
  t2 := Tryz.underlying2
  a2 := Tryz.isAgg2
  z2 := Tryz.sizeOf2
  v2 := Tryz.zeroValue2
  t3 := Tryz.underlying3
  a3 := Tryz.isAgg3
  z3 := Tryz.sizeOf3
  v3 := Tryz.zeroValue3
  t4 := Tryz.underlying4
  a4 := Tryz.isAgg4
  z4 := Tryz.sizeOf4
  v4 := Tryz.zeroValue4
  t5 := Tryz.underlying5
  a5 := Tryz.isAgg5
  z5 := Tryz.sizeOf5
  v5 := Tryz.zeroValue5
  t9 := Tryz.underlying9
  a9 := Tryz.isAgg9
  z9 := Tryz.sizeOf9
  v9 := Tryz.zeroValue9
  t20 := Tryz.underlying20
  a20 := Tryz.isAgg20
  z20 := Tryz.sizeOf20
  v20 := Tryz.zeroValue20
  t21 := Tryz.underlying21
  a21 := Tryz.isAgg21
  z21 := Tryz.sizeOf21
  v21 := Tryz.zeroValue21
  t37 := Tryz.underlying85
  a37 := Tryz.isAgg85
  z37 := Tryz.sizeOf85
  v37 := Tryz.zeroValue85
  t46 := Tryz.underlying264
  a46 := Tryz.isAgg264
  z46 := Tryz.sizeOf264
  v46 := Tryz.zeroValue264
  t51 := Tryz.underlying262
  a51 := Tryz.isAgg262
  z51 := Tryz.sizeOf262
  v51 := Tryz.zeroValue262
  t53 := Tryz.underlying247
  a53 := Tryz.isAgg247
  z53 := Tryz.sizeOf247
  v53 := Tryz.zeroValue247
  t75 := Tryz.underlying190
  a75 := Tryz.isAgg190
  z75 := Tryz.sizeOf190
  v75 := Tryz.zeroValue190
  t85 := Tryz.underlying237
  a85 := Tryz.isAgg237
  z85 := Tryz.sizeOf237
  v85 := Tryz.zeroValue237
  t127 := Tryz.underlying232
  a127 := Tryz.isAgg232
  z127 := Tryz.sizeOf232
  v127 := Tryz.zeroValue232
  t143 := Tryz.underlying287
  a143 := Tryz.isAgg287
  z143 := Tryz.sizeOf287
  v143 := Tryz.zeroValue287
  t145 := Tryz.underlying289
  a145 := Tryz.isAgg289
  z145 := Tryz.sizeOf289
  v145 := Tryz.zeroValue289
  t167 := Tryz.underlying268
  a167 := Tryz.isAgg268
  z167 := Tryz.sizeOf268
  v167 := Tryz.zeroValue268
  t168 := Tryz.underlying271
  a168 := Tryz.isAgg271
  z168 := Tryz.sizeOf271
  v168 := Tryz.zeroValue271
  t171 := Tryz.underlying246
  a171 := Tryz.isAgg246
  z171 := Tryz.sizeOf246
  v171 := Tryz.zeroValue246
  t173 := Tryz.underlying250
  a173 := Tryz.isAgg250
  z173 := Tryz.sizeOf250
  v173 := Tryz.zeroValue250
  t175 := Tryz.underlying269
  a175 := Tryz.isAgg269
  z175 := Tryz.sizeOf269
  v175 := Tryz.zeroValue269
  t210 := Tryz.underlying277
  a210 := Tryz.isAgg277
  z210 := Tryz.sizeOf277
  v210 := Tryz.zeroValue277
  t212 := Tryz.underlying261
  a212 := Tryz.isAgg261
  z212 := Tryz.sizeOf261
  v212 := Tryz.zeroValue261
  t213 := Tryz.underlying263
  a213 := Tryz.isAgg263
  z213 := Tryz.sizeOf263
  t232 := Tryz.underlying281
  a232 := Tryz.isAgg281
  z232 := Tryz.sizeOf281
  v232 := Tryz.zeroValue281
  t233 := Tryz.underlying282
  a233 := Tryz.isAgg282
  z233 := Tryz.sizeOf282
  v233 := Tryz.zeroValue282
  g15 := by kernel_rfl
  g16 := by kernel_rfl
  g17 := by kernel_rfl
  g18 := by kernel_rfl
  g19 := by kernel_rfl
  t80 := Tryz.underlying194
  a80 := Tryz.isAgg194
  z80 := Tryz.sizeOf194
  v80 := Tryz.zeroValue194
  i0 := by kernel_rfl
  i2 := by kernel_rfl
  i3 := by kernel_rfl
  i4 := by kernel_rfl
  i5 := by kernel_rfl
  i9 := by kernel_rfl
  i20 := by kernel_rfl
  i21 := by kernel_rfl
  i37 := by kernel_rfl
  i46 := by kernel_rfl
  i51 := by kernel_rfl
  i53 := by kernel_rfl
  i75 := by kernel_rfl
  i80 := by kernel_rfl
  i85 := by kernel_rfl
  i127 := by kernel_rfl
  i143 := by kernel_rfl
  i145 := by kernel_rfl
  i167 := by kernel_rfl
  i168 := by kernel_rfl
  i171 := by kernel_rfl
  i173 := by kernel_rfl
  i175 := by kernel_rfl
  i210 := by kernel_rfl
  i212 := by kernel_rfl
  i232 := by kernel_rfl
  i233 := by kernel_rfl
  m15 := by kernel_rfl
  m16 := by kernel_rfl
  m17 := by kernel_rfl
  m18 := by kernel_rfl
  m19 := by kernel_rfl
  c0 := by kernel_rfl
  c2 := by kernel_rfl
  c3 := by kernel_rfl
  c4 := by kernel_rfl
  c5 := by kernel_rfl
  c9 := by kernel_rfl
  c20 := by kernel_rfl
  c21 := by kernel_rfl
  c37 := by kernel_rfl
  c46 := by kernel_rfl
  c51 := by kernel_rfl
  c53 := by kernel_rfl
  c75 := by kernel_rfl
  c80 := by kernel_rfl
  c85 := by kernel_rfl
  c127 := by kernel_rfl
  c143 := by kernel_rfl
  c145 := by kernel_rfl
  c167 := by kernel_rfl
  c168 := by kernel_rfl
  c171 := by kernel_rfl
  c173 := by kernel_rfl
  c175 := by kernel_rfl
  c210 := by kernel_rfl
  c212 := by kernel_rfl
  c213 := by kernel_rfl
  c232 := by kernel_rfl
  c233 := by kernel_rfl }
open Go.RowKit in
theorem Tryz.strconv_ParseInt_10_at32_ok (s : ByteArray) (hmax : s.size ≤ 9223372036854775806) (v : Int) (h : Lib.parseIntB 32 s.data.toList = .ok v) (w : World) :
    Calls Tryz.prog 185 #[.string s, .int .i64 10, .int .i64 32] w fun e w' => e = .returned (.tuple #[.int .i64 v, .nilIface]) ∧ (w' = w ∨ ∃ t, w' = Lib.bytesWorld w 5 t) := Any.strconv_ParseInt_10_at32_ok Tryz.laysC174 s hmax v h w
def Tryz.lays143_ren : Go.Shelf.Ren := ⟨fun | 143 => 207 | 219 => 210 | 217 => 228 | 225 => 229 | 224 => 230 | 267 => 231 | 266 => 239 | 314 => 240 | n => n, fun | 9 => 9 | 3 => 3 | 4 => 4 | 5 => 5 | 46 => 264 | 146 => 279 | 51 => 262 | n => n, fun | 1 => 1 | n => n⟩
theorem Tryz.lays143 : Go.Proofs.Lays.n143 Tryz.prog Tryz.lays143_ren := {
  mixed := by kernel_rfl
  f143 := Tryz.func207.trans (congrArg some (by kernel_rfl))
  f217 := Tryz.func228.trans (congrArg some (by kernel_rfl))
  f219 := Tryz.func210.trans (congrArg some (by kernel_rfl))
  f224 := Tryz.func230.trans (congrArg some (by kernel_rfl))
  f225 := Tryz.func229.trans (congrArg some (by kernel_rfl))
  f266 := Tryz.func239.trans (congrArg some (by kernel_rfl))
  f267 := Tryz.func231.trans (congrArg some (by kernel_rfl))
  f314 := Tryz.func240.trans (congrArg some (by kernel_rfl))
  t3 := Tryz.underlying3
  a3 := Tryz.isAgg3
  z3 := Tryz.sizeOf3
  v3 := Tryz.zeroValue3
  t4 := Tryz.underlying4
  a4 := Tryz.isAgg4
  z4 := Tryz.sizeOf4
  v4 := Tryz.zeroValue4
  t5 := Tryz.underlying5
  a5 := Tryz.isAgg5
  z5 := Tryz.sizeOf5
  v5 := Tryz.zeroValue5
  t9 := Tryz.underlying9
  a9 := Tryz.isAgg9
  z9 := Tryz.sizeOf9
  v9 := Tryz.zeroValue9
  t46 := Tryz.underlying264
  a46 := Tryz.isAgg264
  z46 := Tryz.sizeOf264
  v46 := Tryz.zeroValue264
  t51 := Tryz.underlying262
  a51 := Tryz.isAgg262
  z51 := Tryz.sizeOf262
  v51 := Tryz.zeroValue262
  t146 := Tryz.underlying279
  a146 := Tryz.isAgg279
  z146 := Tryz.sizeOf279
  v146 := Tryz.zeroValue279
  g1 := by kernel_rfl }
open Go.RowKit Go.Lib in
theorem Tryz.strings_Index (s sub : ByteArray) (m : Int) (w : World) (hs : s.size < 4294967281) (hm : w.cell? ⟨1, 0, none⟩ = some (.int .i64 m)) :
    Calls Tryz.prog 207 #[.string s, .string sub] w fun e w' => e = .returned (.int .i64 (Lib.index s.data.toList sub.data.toList)) ∧ w' = w := Any.strings_Index Tryz.lays143 s sub m w hs hm
def Tryz.lays145_ren : Go.Shelf.Ren := ⟨fun | 145 => 161 | 220 => 187 | 219 => 210 | 217 => 228 | 225 => 229 | 224 => 230 | 267 => 231 | 266 => 239 | 314 => 240 | n => n, fun | 9 => 9 | 4 => 4 | 59 => 216 | 3 => 3 | 5 => 5 | 46 => 264 | 146 => 279 | 51 => 262 | n => n, fun | 1 => 1 | n => n⟩
theorem Tryz.lays145 : Go.Proofs.Lays.n145 Tryz.prog Tryz.lays145_ren := {
  mixed := by kernel_rfl
  f145 := Tryz.func161.trans (congrArg some (by kernel_rfl))
  f217 := Tryz.func228.trans (congrArg some (by kernel_rfl))
  f219 := Tryz.func210.trans (congrArg some (by kernel_rfl))
  f220 := Tryz.func187.trans (congrArg some (by kernel_rfl))
  f224 := Tryz.func230.trans (congrArg some (by kernel_rfl))
  f225 := Tryz.func229.trans (congrArg some (by kernel_rfl))
  f266 := Tryz.func239.trans (congrArg some (by kernel_rfl))
  f267 := Tryz.func231.trans (congrArg some (by kernel_rfl))
  f314 := Tryz.func240.trans (congrArg some (by kernel_rfl))
  t3 := Tryz.underlying3
  a3 := Tryz.isAgg3
  z3 := Tryz.sizeOf3
  v3 := Tryz.zeroValue3
  t4 := Tryz.underlying4
  a4 := Tryz.isAgg4
  z4 := Tryz.sizeOf4
  v4 := Tryz.zeroValue4
  t5 := Tryz.underlying5
  a5 := Tryz.isAgg5
  z5 := Tryz.sizeOf5
  v5 := Tryz.zeroValue5
  t9 := Tryz.underlying9
  a9 := Tryz.isAgg9
  z9 := Tryz.sizeOf9
  v9 := Tryz.zeroValue9
  t46 := Tryz.underlying264
  a46 := Tryz.isAgg264
  z46 := Tryz.sizeOf264
  v46 := Tryz.zeroValue264
  t51 := Tryz.underlying262
  a51 := Tryz.isAgg262
  z51 := Tryz.sizeOf262
  v51 := Tryz.zeroValue262
  t59 := Tryz.underlying216
  a59 := Tryz.isAgg216
  z59 := Tryz.sizeOf216
  v59 := Tryz.zeroValue216
  t146 := Tryz.underlying279
  a146 := Tryz.isAgg279
  z146 := Tryz.sizeOf279
  v146 := Tryz.zeroValue279
  g1 := by kernel_rfl }
open Go.RowKit Go.Lib in
theorem Tryz.strings_Cut (s sep : ByteArray) (m : Int) (w : World) (hs : s.size < 4294967281) (hm : w.cell? ⟨1, 0, none⟩ = some (.int .i64 m)) :
    Calls Tryz.prog 161 #[.string s, .string sep] w fun e w' => e = .returned (.tuple #[.string ⟨(Lib.cut s.data.toList sep.data.toList).1.toArray⟩, .string ⟨(Lib.cut s.data.toList sep.data.toList).2.1.toArray⟩, .bool (Lib.cut s.data.toList sep.data.toList).2.2]) ∧ ∃ n, w' = w.drewN n := Any.strings_Cut Tryz.lays145 s sep m w hs hm
def Tryz.lays138_ren : Go.Shelf.Ren := ⟨fun | 138 => 195 | 195 => 212 | 218 => 213 | 143 => 207 | 219 => 210 | 217 => 228 | 225 => 229 | 224 => 230 | 267 => 231 | 266 => 239 | 314 => 240 | n => n, fun | 9 => 9 | 3 => 3 | 4 => 4 | 5 => 5 | 0 => 0 | 46 => 264 | 146 => 279 | 51 => 262 | n => n, fun | 1 => 1 | n => n⟩
theorem Tryz.lays138 : Go.Proofs.Lays.n138 Tryz.prog Tryz.lays138_ren := {
  mixed := by kernel_rfl
  f138 := Tryz.func195.trans (congrArg some (by kernel_rfl))
  f143 := Tryz.func207.trans (congrArg some (by kernel_rfl))
  f195 := Tryz.func212.trans (congrArg some (by kernel_rfl))
  f217 := Tryz.func228.trans (congrArg some (by kernel_rfl))
  f218 := Tryz.func213.trans (congrArg some (by kernel_rfl))
  f219 := Tryz.func210.trans (congrArg some (by kernel_rfl))
  f224 := Tryz.func230.trans (congrArg some (by kernel_rfl))
  f225 := Tryz.func229.trans (congrArg some (by kernel_rfl))
  f266 := Tryz.func239.trans (congrArg some (by kernel_rfl))
  f267 := Tryz.func231.trans (congrArg some (by kernel_rfl))
  f314 := Tryz.func240.trans (congrArg some (by kernel_rfl))
  t0 := Tryz.underlying0
  a0 := Tryz.isAgg0
  z0 := Tryz.sizeOf0
  v0 := Tryz.zeroValue0
  t3 := Tryz.underlying3
  a3 := Tryz.isAgg3
  z3 := Tryz.sizeOf3
  v3 := Tryz.zeroValue3
  t4 := Tryz.underlying4
  a4 := Tryz.isAgg4
  z4 := Tryz.sizeOf4
  v4 := Tryz.zeroValue4
  t5 := Tryz.underlying5
  a5 := Tryz.isAgg5
  z5 := Tryz.sizeOf5
  v5 := Tryz.zeroValue5
  t9 := Tryz.underlying9
  a9 := Tryz.isAgg9
  z9 := Tryz.sizeOf9
  v9 := Tryz.zeroValue9
  t46 := Tryz.underlying264
  a46 := Tryz.isAgg264
  z46 := Tryz.sizeOf264
  v46 := Tryz.zeroValue264
  t51 := Tryz.underlying262
  a51 := Tryz.isAgg262
  z51 := Tryz.sizeOf262
  v51 := Tryz.zeroValue262
  t146 := Tryz.underlying279
  a146 := Tryz.isAgg279
  z146 := Tryz.sizeOf279
  v146 := Tryz.zeroValue279
  g1 := by kernel_rfl }
open Go.RowKit Go.Lib in
theorem Tryz.strings_Count_one (s : ByteArray) (c : UInt8) (w : World) :
    Calls Tryz.prog 195 #[.string s, .string ⟨#[c]⟩] w fun e w' => e = .returned (.int .i64 (Lib.countByte s.data.toList c)) ∧ w' = w := Any.strings_Count_one Tryz.lays138 s c w
def Tryz.lays147_ren : Go.Shelf.Ren := ⟨fun | 147 => 159 | 221 => 184 | 268 => 206 | 138 => 195 | 143 => 207 | 195 => 212 | 197 => 222 | 218 => 213 | 219 => 210 | 260 => 235 | 217 => 228 | 225 => 229 | 224 => 230 | 267 => 231 | 266 => 239 | 314 => 240 | n => n, fun | 9 => 9 | 3 => 3 | 31 => 80 | 4 => 4 | 0 => 0 | 105 => 266 | 21 => 21 | 5 => 5 | 46 => 264 | 119 => 283 | 139 => 286 | 138 => 285 | 146 => 279 | 51 => 262 | n => n, fun | 1 => 1 | 3 => 6 | 4 => 7 | n => n⟩
theorem Tryz.lays147 : Go.Proofs.Lays.n147 Tryz.prog Tryz.lays147_ren := {
  mixed := by kernel_rfl
  f138 := Tryz.func195.trans (congrArg some (by kernel_rfl))
  f143 := Tryz.func207.trans (congrArg some (by kernel_rfl))
  f147 := Tryz.func159.trans (congrArg some (by kernel_rfl))
  f195 := Tryz.func212.trans (congrArg some (by kernel_rfl))
  f197 := Tryz.func222.trans (congrArg some (by kernel_rfl))
  f217 := Tryz.func228.trans (congrArg some (by kernel_rfl))
  f218 := Tryz.func213.trans (congrArg some (by kernel_rfl))
  f219 := Tryz.func210.trans (congrArg some (by kernel_rfl))
  f221 := Tryz.func184.trans (congrArg some (by kernel_rfl))
  f224 := Tryz.func230.trans (congrArg some (by kernel_rfl))
  f225 := Tryz.func229.trans (congrArg some (by kernel_rfl))
  f260 := Tryz.func235.trans (congrArg some (by kernel_rfl))
  f266 := Tryz.func239.trans (congrArg some (by kernel_rfl))
  f267 := Tryz.func231.trans (congrArg some (by kernel_rfl))
  f268 := Tryz.func206.trans (congrArg some (by kernel_rfl))
  f314 := Tryz.func240.trans (congrArg some (by kernel_rfl))
  t0 := Tryz.underlying0
  a0 := Tryz.isAgg0
  z0 := Tryz.sizeOf0
  v0 := Tryz.zeroValue0
  t3 := Tryz.underlying3
  a3 := Tryz.isAgg3
  z3 := Tryz.sizeOf3
  v3 := Tryz.zeroValue3
  t4 := Tryz.underlying4
  a4 := Tryz.isAgg4
  z4 := Tryz.sizeOf4
  v4 := Tryz.zeroValue4
  t5 := Tryz.underlying5
  a5 := Tryz.isAgg5
  z5 := Tryz.sizeOf5
  v5 := Tryz.zeroValue5
  t9 := Tryz.underlying9
  a9 := Tryz.isAgg9
  z9 := Tryz.sizeOf9
  v9 := Tryz.zeroValue9
  t21 := Tryz.underlying21
  a21 := Tryz.isAgg21
  z21 := Tryz.sizeOf21
  v21 := Tryz.zeroValue21
  t31 := Tryz.underlying80
  a31 := Tryz.isAgg80
  z31 := Tryz.sizeOf80
  v31 := Tryz.zeroValue80
  t46 := Tryz.underlying264
  a46 := Tryz.isAgg264
  z46 := Tryz.sizeOf264
  v46 := Tryz.zeroValue264
  t51 := Tryz.underlying262
  a51 := Tryz.isAgg262
  z51 := Tryz.sizeOf262
  v51 := Tryz.zeroValue262
  t105 := Tryz.underlying266
  a105 := Tryz.isAgg266
  z105 := Tryz.sizeOf266
  v105 := Tryz.zeroValue266
  t119 := Tryz.underlying283
  a119 := Tryz.isAgg283
  z119 := Tryz.sizeOf283
  t138 := Tryz.underlying285
  a138 := Tryz.isAgg285
  z138 := Tryz.sizeOf285
  v138 := Tryz.zeroValue285
  t139 := Tryz.underlying286
  a139 := Tryz.isAgg286
  z139 := Tryz.sizeOf286
  v139 := Tryz.zeroValue286
  t146 := Tryz.underlying279
  a146 := Tryz.isAgg279
  z146 := Tryz.sizeOf279
  v146 := Tryz.zeroValue279
  g1 := by kernel_rfl
  g3 := by kernel_rfl
  g4 := by kernel_rfl }
open Go.RowKit Go.Lib in
theorem Tryz.strings_SplitN (s sep : ByteArray) (n : Nat) (m : Int) (w : World) (hs : s.size < 4294967281) (hm : w.cell? ⟨1, 0, none⟩ = some (.int .i64 m)) (h1 : 1 ≤ sep.size) (hn : 1 ≤ n) (hn63 : n ≤ 9223372036854775807) :
    Calls Tryz.prog 159 #[.string s, .string sep, .int .i64 n] w fun e w' =>
      e = .returned (.slice (some ⟨w.heap.size, 0, none⟩) (Lib.splitB sep 0 (min n (s.size + 1) - 1) s).length (min n (s.size + 1))) ∧ w' = w.alloc (.cells (Lib.cellsOf (Lib.splitB sep 0 (min n (s.size + 1) - 1) s) (min n (s.size + 1))) 9) := Any.strings_SplitN Tryz.lays147 (by kernel_rfl) s sep n m w hs hm h1 hn hn63
end Go.Proofs

/- Rows of plain structs as lists: how they lie in memory, whether handed in or the call's own. -/
namespace Go.Proofs.YtflllkpnkcmegaaGreatDoor
open Go.RowKit
set_option linter.unusedVariables false

/-- Nothing that was there has changed. -/
def Kept (w w' : World) : Prop := Below w.heap.size w w'
theorem Kept.refl (w : World) : Kept w w := Below.refl _ _
theorem Kept.trans {a b c : World} (h : Kept a b) (k : Kept b c) : Kept a c := Below.trans h (Below.mono k h.size)
theorem Kept.drewN (w : World) (n : Nat) : Kept w (w.drewN n) := below_drewN (Below.refl _ _) n
theorem Kept.drew (w : World) : Kept w w.drew := Kept.drewN w 1
theorem kept_alloc (w : World) (o : Obj) : Kept w (w.alloc o) := (Below.refl _ _).alloc (Nat.le_refl _) _
theorem kept_two (w : World) (o o' : Obj) : Kept w ((w.alloc o).alloc o') := (kept_alloc w o).trans (kept_alloc _ o')
theorem cell_later {w w' : World} {a : Addr} {u : Value} (k : Kept w w') (h : w.cell? a = some u) : w'.cell? a = some u :=
  (Below.cell k (World.block_lt_of_cell? _ _ h)).trans h

theorem ret_i64 {a b : Int} (h : a = b) : Ending.returned (.int .i64 a) = .returned (.int .i64 b) := by rw [h]
theorem ret_str {a b : ByteArray} (h : a = b) : Ending.returned (.string a) = .returned (.string b) := by rw [h]

/-- Text order, as the model has it. -/
def ltS (s t : ByteArray) : Bool := Op.bytesLess s.toList t.toList
def eqS (s t : ByteArray) : Bool := s.toList == t.toList
def leS (s t : ByteArray) : Bool := ltS s t || eqS s t
theorem eqS_iff {s t : ByteArray} : eqS s t = true ↔ s = t := by
  unfold eqS
  rw [Lib.toList_data, Lib.toList_data, beq_iff_eq]
  constructor
  · intro h
    cases s; cases t
    simp only [ByteArray.mk.injEq]
    exact Array.ext' h
  · rintro rfl; rfl
theorem eqS_self (s : ByteArray) : eqS s s = true := eqS_iff.2 rfl

/-- How an element lies: its cells, m of them. -/
structure Lay (α : Type) where
  m : Nat
  cs : α → List Value
  fine : α → Prop
  len : ∀ x, (cs x).length = m
  one : ∀ x u, u ∈ cs x → u.oneCell' = true
  pos : 0 < m

theorem one_s (x : ByteArray) (u : Value) (h : u ∈ [Value.string x]) : u.oneCell' = true := by
  have e : u = Value.string x := by simpa using h
  rw [e]; rfl
theorem one_ss (x y : ByteArray) (u : Value) (h : u ∈ [Value.string x, Value.string y]) : u.oneCell' = true := by
  have e : u = Value.string x ∨ u = Value.string y := by simpa using h
  rcases e with e | e <;> rw [e] <;> rfl
theorem one_iss (o : Int) (x y : ByteArray) (u : Value) (h : u ∈ [Value.int .i64 o, Value.string x, Value.string y]) : u.oneCell' = true := by
  have e : u = Value.int .i64 o ∨ u = Value.string x ∨ u = Value.string y := by simpa using h
  rcases e with e | e | e <;> rw [e] <;> rfl
def StrLay : Lay ByteArray := { m := 1, cs := fun s => [.string s], fine := fun s => s.size ≤ maxLen, len := fun _ => rfl, one := one_s, pos := by decide }
def PairLay : Lay (ByteArray × ByteArray) := { m := 2, cs := fun x => [.string x.1, .string x.2], fine := fun x => x.1.size ≤ maxLen ∧ x.2.size ≤ maxLen, len := fun _ => rfl, one := fun x => one_ss x.1 x.2, pos := by decide }
def TermLay : Lay (Int × ByteArray × ByteArray) := { m := 3, cs := fun x => [.int .i64 x.1, .string x.2.1, .string x.2.2], fine := fun x => (-9223372036854775808 ≤ x.1 ∧ x.1 ≤ 9223372036854775807) ∧ x.2.1.size ≤ maxLen ∧ x.2.2.size ≤ maxLen, len := fun _ => rfl, one := fun x => one_iss x.1 x.2.1 x.2.2, pos := by decide }

/-- A slice of so many lies at a. -/
def RowAt {α : Type} (L : Lay α) (w : World) (a : Option Addr) (len : Nat) (l : List α) : Prop :=
  l.length = len ∧ len ≤ maxLen ∧ (∀ x ∈ l, L.fine x) ∧
    (len = 0 ∨ ∃ b off, a = some ⟨b, off, none⟩ ∧ b < w.heap.size ∧
      ∀ i x j u, l[i]? = some x → (L.cs x)[j]? = some u → w.cell? ⟨b, off + i * L.m + j, none⟩ = some u)

theorem RowAt.kept {α : Type} {L : Lay α} {w w' : World} {a : Option Addr} {len : Nat} {l : List α} (h : RowAt L w a len l) (k : Kept w w') : RowAt L w' a len l := by
  obtain ⟨h0, h1, h2, h3⟩ := h
  refine ⟨h0, h1, h2, h3.imp id ?_⟩
  rintro ⟨b, off, ha, hb, hc⟩
  exact ⟨b, off, ha, Nat.lt_of_lt_of_le hb k.size, fun i x j u hi hj => (Below.cell k (p := ⟨b, off + i * L.m + j, none⟩) hb).trans (hc i x j u hi hj)⟩

theorem RowAt.nil {α : Type} {L : Lay α} (w : World) (a : Option Addr) : RowAt L w a 0 [] := ⟨rfl, by decide, fun i hi => absurd hi (by simp), .inl rfl⟩
theorem RowAt.form {α : Type} {L : Lay α} {w : World} {a : Option Addr} {len : Nat} {l : List α} (h : RowAt L w a len l) : len = 0 ∨ ∃ b off, a = some ⟨b, off, none⟩ := by
  obtain ⟨_, _, _, h3⟩ := h
  exact h3.imp id fun ⟨b, off, e, _⟩ => ⟨b, off, e⟩

theorem RowAt.cells {α : Type} {L : Lay α} {w : World} {b off len : Nat} {l : List α} {k : Nat} (h : RowAt L w (some ⟨b, off, none⟩) len l) (hk : k < len) :
    ∃ x, l[k]? = some x ∧ l.drop k = x :: l.drop (k + 1) ∧ b < w.heap.size ∧ L.fine x ∧ ∀ (j : Nat) u, (L.cs x)[j]? = some u → w.cell? ⟨b, off + k * L.m + j, none⟩ = some u := by
  obtain ⟨h0, _, hf, h3⟩ := h
  have hkl : k < l.length := by omega
  rcases h3 with h3 | ⟨b', off', e, hb, hc⟩
  · omega
  · injection e with e; injection e with e1 e2 e3; subst e1; subst e2
    have he : l[k]? = some l[k] := List.getElem?_eq_getElem hkl
    exact ⟨l[k], he, List.drop_eq_getElem_cons hkl, hb, hf _ (List.getElem_mem hkl), fun j u hu => hc k _ j u he hu⟩

theorem RowAt.str {w : World} {b off len : Nat} {l : List ByteArray} {k : Nat} (h : RowAt StrLay w (some ⟨b, off, none⟩) len l) (hk : k < len) :
    ∃ x : ByteArray, l[k]? = some x ∧ l.drop k = x :: l.drop (k + 1) ∧ b < w.heap.size ∧ x.size ≤ maxLen ∧ w.cell? ⟨b, off + k, none⟩ = some (.string x) := by
  obtain ⟨x, h1, h2, h3, h4, h5⟩ := h.cells hk
  exact ⟨x, h1, h2, h3, h4, by have := h5 0 _ rfl; simpa [StrLay] using this⟩
theorem RowAt.pair {w : World} {b off len : Nat} {l : List (ByteArray × ByteArray)} {k : Nat} (h : RowAt PairLay w (some ⟨b, off, none⟩) len l) (hk : k < len) :
    ∃ x y : ByteArray, l[k]? = some (x, y) ∧ l.drop k = (x, y) :: l.drop (k + 1) ∧ b < w.heap.size ∧ x.size ≤ maxLen ∧ y.size ≤ maxLen ∧ w.cell? ⟨b, off + k * 2, none⟩ = some (.string x) ∧ w.cell? ⟨b, off + k * 2 + 1, none⟩ = some (.string y) := by
  obtain ⟨⟨x, y⟩, h1, h2, h3, h4, h5⟩ := h.cells hk
  exact ⟨x, y, h1, h2, h3, h4.1, h4.2, h5 0 _ rfl, h5 1 _ rfl⟩
theorem RowAt.term {w : World} {b off len : Nat} {l : List (Int × ByteArray × ByteArray)} {k : Nat} (h : RowAt TermLay w (some ⟨b, off, none⟩) len l) (hk : k < len) :
    ∃ (o : Int) (x y : ByteArray), l[k]? = some (o, x, y) ∧ l.drop k = (o, x, y) :: l.drop (k + 1) ∧ b < w.heap.size ∧ (-9223372036854775808 ≤ o ∧ o ≤ 9223372036854775807) ∧ x.size ≤ maxLen ∧ y.size ≤ maxLen ∧
      w.cell? ⟨b, off + k * 3, none⟩ = some (.int .i64 o) ∧ w.cell? ⟨b, off + k * 3 + 1, none⟩ = some (.string x) ∧ w.cell? ⟨b, off + k * 3 + 2, none⟩ = some (.string y) := by
  obtain ⟨⟨o, x, y⟩, h1, h2, h3, h4, h5⟩ := h.cells hk
  exact ⟨o, x, y, h1, h2, h3, h4.1, h4.2.1, h4.2.2, h5 0 _ rfl, h5 1 _ rfl, h5 2 _ rfl⟩

/-- The cells of all. -/
def rowCells {α : Type} (L : Lay α) (l : List α) : List Value := l.flatMap L.cs
theorem rowCells_length {α : Type} (L : Lay α) : ∀ l : List α, (rowCells L l).length = l.length * L.m
  | [] => by simp [rowCells]
  | x :: t => by
    have := rowCells_length L t
    unfold rowCells at this ⊢
    rw [List.flatMap_cons, List.length_append, this, L.len, List.length_cons, Nat.add_mul, Nat.one_mul, Nat.add_comm]
theorem rowCells_append {α : Type} (L : Lay α) (l m : List α) : rowCells L (l ++ m) = rowCells L l ++ rowCells L m := by unfold rowCells; rw [List.flatMap_append]
theorem rowCells_one {α : Type} (L : Lay α) (l : List α) (u : Value) (h : u ∈ rowCells L l) : u.oneCell' = true := by
  obtain ⟨x, _, hu⟩ := List.mem_flatMap.1 h
  exact L.one x u hu
theorem rowCells_at {α : Type} (L : Lay α) : ∀ (l : List α) (i : Nat) (x : α) (j : Nat) (u : Value), l[i]? = some x → (L.cs x)[j]? = some u → (rowCells L l)[i * L.m + j]? = some u
  | [], i, x, j, u, h, _ => by simp at h
  | y :: t, 0, x, j, u, h, hu => by
    have : y = x := by simpa using h
    subst this
    unfold rowCells
    rw [List.flatMap_cons, Nat.zero_mul, Nat.zero_add, List.getElem?_append_left (List.getElem?_eq_some_iff.1 hu).1]
    exact hu
  | y :: t, i + 1, x, j, u, h, hu => by
    have ih := rowCells_at L t i x j u (by simpa using h) hu
    unfold rowCells at ih ⊢
    rw [List.flatMap_cons, List.getElem?_append_right (by rw [L.len, Nat.add_mul]; omega), L.len]
    have : (i + 1) * L.m + j - L.m = i * L.m + j := by rw [Nat.add_mul]; omega
    rw [this]; exact ih

/-- v is a row of the call's own (from block base on) that reads as l. -/
def Own {α : Type} (L : Lay α) (e : TypeId) (w : World) (base : Nat) (v : Value) (l : List α) : Prop := w.ownsRow base e L.m v l.length (rowCells L l) ∧ ∀ x ∈ l, L.fine x

theorem Own.nil {α : Type} {L : Lay α} (e : TypeId) (w : World) (base : Nat) : Own L e w base (.slice none 0 0) [] := ⟨World.ownsRow_nil w base e L.m, fun x h => by cases h⟩

theorem Own.at_ {α : Type} {L : Lay α} {e : TypeId} {w : World} {base : Nat} {v : Value} {l : List α} (h : Own L e w base v l) :
    ∃ a cap, v = .slice a l.length cap ∧ l.length ≤ cap ∧ cap ≤ maxLen ∧ RowAt L w a l.length l := by
  obtain ⟨h, hf⟩ := h
  have h' := h
  obtain ⟨_, h1⟩ := h
  rcases h1 with ⟨rfl, h0⟩ | ⟨g, cap, cur, rfl, hbg, hg, hn, hm, hs, ht⟩
  · have : l = [] := List.eq_nil_of_length_eq_zero h0
    subst this
    exact ⟨none, 0, rfl, Nat.le_refl _, by decide, RowAt.nil w none⟩
  · refine ⟨_, cap, rfl, hn, hm, rfl, Nat.le_trans hn hm, hf, .inr ⟨g, 0, rfl, ?_, fun i x j u hi hj => ?_⟩⟩
    · rcases Nat.lt_or_ge g w.heap.size with hlt | hge
      · exact hlt
      · rw [Array.getElem?_eq_none hge] at hg; cases hg
    · have c1 := h'.cells (g := g) rfl _ _ (rowCells_at L l i x j u hi hj)
      rw [← c1]
      congr 1
      unfold Addr.add
      split <;> simp_all

theorem Own.kept {α : Type} {L : Lay α} {e : TypeId} {w w' : World} {base : Nat} {v : Value} {l : List α} (h : Own L e w base v l) (k : Kept w w') : Own L e w' base v l := by
  obtain ⟨⟨h0, h1⟩, hf⟩ := h
  refine ⟨⟨h0, h1.imp id ?_⟩, hf⟩
  rintro ⟨g, cap, cur, rfl, hbg, hg, hn, hm, hs, ht⟩
  refine ⟨g, cap, cur, rfl, hbg, ?_, hn, hm, hs, ht⟩
  have hlt : g < w.heap.size := by
    rcases Nat.lt_or_ge g w.heap.size with hlt | hge
    · exact hlt
    · rw [Array.getElem?_eq_none hge] at hg; cases hg
  exact (k.block g hlt).trans hg
theorem Own.base_le {α : Type} {L : Lay α} {e : TypeId} {w : World} {B B' : Nat} {v : Value} {l : List α} (h : Own L e w B' v l) (hb : B ≤ B') : Own L e w B v l := by
  obtain ⟨⟨h0, h1⟩, hf⟩ := h
  refine ⟨⟨h0, h1.imp id ?_⟩, hf⟩
  rintro ⟨g, cap, cur, rfl, hbg, rest⟩
  exact ⟨g, cap, cur, rfl, Nat.le_trans hb hbg, rest⟩
theorem Own.setCell_below {α : Type} {L : Lay α} {e : TypeId} {w : World} {B : Nat} {v : Value} {l : List α} (h : Own L e w B v l) {a : Addr} (ha : a.block < B) (u : Value) : Own L e (w.setCell a u) B v l :=
  ⟨ownsRow_setCell_below h.1 ha u, h.2⟩
theorem Own.put {α : Type} {L : Lay α} {e : TypeId} {w : World} {B D : Nat} {v : Value} {l : List α} (h : Own L e w B v l) (hD : D < B) (o : Obj) : Own L e (w.putObj D o) B v l := by
  obtain ⟨⟨h0, h1⟩, hf⟩ := h
  refine ⟨⟨h0, h1.imp id ?_⟩, hf⟩
  rintro ⟨g, cap, cur, rfl, hbg, hg, rest⟩
  exact ⟨g, cap, cur, rfl, hbg, (World.putObj_heap_other (by omega)).trans hg, rest⟩

/-- A slice that reads as l. -/
def Reads {α : Type} (L : Lay α) (w : World) (v : Value) (l : List α) : Prop := ∃ a cap, v = .slice a l.length cap ∧ l.length ≤ cap ∧ cap ≤ maxLen ∧ RowAt L w a l.length l
theorem Reads.kept {α : Type} {L : Lay α} {w w' : World} {v : Value} {l : List α} (h : Reads L w v l) (k : Kept w w') : Reads L w' v l := by
  obtain ⟨a, cap, e, h1, h2, h3⟩ := h
  exact ⟨a, cap, e, h1, h2, h3.kept k⟩
theorem Own.reads {α : Type} {L : Lay α} {e : TypeId} {w : World} {base : Nat} {v : Value} {l : List α} (h : Own L e w base v l) : Reads L w v l := by
  obtain ⟨a, cap, e, h1, h2, h3⟩ := h.at_
  exact ⟨a, cap, e, h1, h2, h3⟩

/-- A panic with one of the document's errors. -/
abbrev perr (c : Int) : PanicEntry := { v := .iface 41 (.int .i64 c), recovered := false }

end Go.Proofs.YtflllkpnkcmegaaGreatDoor

/- Names: package res's and the reference's. -/
namespace Go.Proofs.YtflllkpnkcmegaaGreatDoor
open Go.RowKit
set_option linter.unusedVariables false

/-- A byte that a name may have. -/
def okByte (c : UInt8) : Bool := (decide (97 ≤ (c.toNat : Int)) && decide ((c.toNat : Int) ≤ 122)) || (decide (48 ≤ (c.toNat : Int)) && decide ((c.toNat : Int) ≤ 57))
def isName (s : ByteArray) : Bool := decide (1 ≤ s.size) && decide (s.size ≤ 12) && s.data.toList.all okByte

theorem empty_of_size {s : ByteArray} (h : s.size = 0) : s = ByteArray.empty := by
  have e : s.data.toList = [] := List.eq_nil_of_length_eq_zero (by rw [Array.length_toList, ByteArray.size_data]; exact h)
  exact Go.WideShapes.bytes_inj (by rw [e]; rfl)

theorem ret_bool {a b : Bool} (h : a = b) : Ending.returned (.bool a) = .returned (.bool b) := by rw [h]

theorem okByte_iff (c : UInt8) : okByte c = true ↔ ((97 ≤ (c.toNat : Int) ∧ (c.toNat : Int) ≤ 122) ∨ (48 ≤ (c.toNat : Int) ∧ (c.toNat : Int) ≤ 57)) := by
  unfold okByte; simp only [Bool.or_eq_true, Bool.and_eq_true, decide_eq_true_eq]

theorem all_ok {s : ByteArray} (h : s.data.toList.all okByte = true) (i : Nat) (hi : i < s.size) : okByte s[i] = true := by
  rw [List.all_eq_true] at h
  exact h _ (by simp [ByteArray.getElem_eq_getElem_data])
theorem not_all_ok {s : ByteArray} (h : ¬ s.data.toList.all okByte = true) : ∃ (j : Nat) (hj : j < s.size), okByte s[j] = false := by
  rw [List.all_eq_true] at h
  obtain ⟨x, h⟩ := Classical.not_forall.1 h
  obtain ⟨hx, hn⟩ := Classical.not_imp.1 h
  obtain ⟨j, hj, e⟩ := List.getElem_of_mem hx
  refine ⟨j, by simpa using hj, ?_⟩
  have : s[j]'(by simpa using hj) = x := by rw [← e]; simp [ByteArray.getElem_eq_getElem_data]
  rw [this]; simpa using hn

theorem digit_yes (c : UInt8) (w : World) (h1 : 48 ≤ (c.toNat : Int)) (h2 : (c.toNat : Int) ≤ 57) :
    Calls Tryz.prog 155 #[.int .u8 (c.toNat : Int)] w fun e w' => e = .returned (.bool true) ∧ w = w' := by
  go_enter Tryz.func155, Tryz.ntmps155
  go_wp2
  go_ret
  exact ⟨by simp [h1, h2], rfl⟩
theorem digit_no (c : UInt8) (w : World) (h : (c.toNat : Int) < 48 ∨ 57 < (c.toNat : Int)) :
    Calls Tryz.prog 155 #[.int .u8 (c.toNat : Int)] w fun e w' => e = .returned (.bool false) ∧ w = w' := by
  by_cases h1 : (c.toNat : Int) < 48
  · go_enter Tryz.func155, Tryz.ntmps155
    go_wp2
    go_ret
    exact ⟨rfl, rfl⟩
  · have h2 : 57 < (c.toNat : Int) := by omega
    have h3 : 48 ≤ (c.toNat : Int) := by omega
    have h4 : decide ((c.toNat : Int) ≤ 57) = false := by simpa using h2
    clear h h1
    go_enter Tryz.func155, Tryz.ntmps155
    go_wp2
    go_ret
    exact ⟨rfl, rfl⟩

set_option maxHeartbeats 800000 in
theorem refName_any (s : ByteArray) (w : World) (hs : s.size ≤ maxLen) :
    Calls Tryz.prog 49 #[.string s] w fun e w' => e = .returned (.bool (isName s)) ∧ w = w' := by
  unfold maxLen at hs
  by_cases h1 : 1 ≤ s.size
  · by_cases h2 : s.size ≤ 12
    · by_cases hall : s.data.toList.all okByte = true
      · have HV := Lib.hid (show isName s = true by simp [isName, h1, h2, hall])
        have HA := Lib.hid (all_ok hall)
        clear hall
        go_enter Tryz.func49, Tryz.ntmps49
        go_wp2
        go_loop [3] (fun i => ∃ k : Nat, k ≤ s.size ∧ i = .int .i64 k) (fun i => s.size - (intOf i).toNat)
        case atStart => exact ⟨0, Nat.zero_le _, rfl⟩
        case round =>
          obtain ⟨k, hk, rfl⟩ := hrel
          by_cases hlt : k < s.size
          · have hok := (okByte_iff _).1 (HA.out k hlt)
            by_cases c1 : (s[k].toNat : Int) < 97
            · have c2 : 48 ≤ (s[k].toNat : Int) := by omega
              have c3 : (s[k].toNat : Int) ≤ 57 := by omega
              clear hok
              go_wp2
              go_round
              case rel => exact ⟨k + 1, by omega, by go_num⟩
              case measure => simp [intOf]; omega
            · have c2 : (s[k].toNat : Int) ≤ 122 := by omega
              clear hok
              go_wp2
              go_round
              case rel => exact ⟨k + 1, by omega, by go_num⟩
              case measure => simp [intOf]; omega
          · go_wp2
            go_ret
            exact ⟨ret_bool HV.out.symm, rfl⟩
      · have HV := Lib.hid (show isName s = false by simp only [isName, Bool.and_eq_false_iff]; exact .inr (by simpa using hall))
        obtain ⟨j, hj, hbad⟩ := not_all_ok hall
        have HB := Lib.hid hbad
        clear hall hbad
        go_enter Tryz.func49, Tryz.ntmps49
        go_wp2
        go_loop [3] (fun i => ∃ k : Nat, k ≤ j ∧ i = .int .i64 k) (fun i => s.size - (intOf i).toNat)
        case atStart => exact ⟨0, Nat.zero_le _, rfl⟩
        case round =>
          obtain ⟨k, hk, rfl⟩ := hrel
          have hlt : k < s.size := by omega
          by_cases hok : okByte s[k] = true
          · have hkj : k + 1 ≤ j := by
              rcases Nat.lt_or_eq_of_le hk with g | g
              · exact g
              · subst g; rw [HB.out] at hok; cases hok
            have hok := (okByte_iff _).1 hok
            by_cases c1 : (s[k].toNat : Int) < 97
            · have c2 : 48 ≤ (s[k].toNat : Int) := by omega
              have c3 : (s[k].toNat : Int) ≤ 57 := by omega
              clear hok
              go_wp2
              go_round
              case rel => exact ⟨k + 1, by omega, by go_num⟩
              case measure => simp [intOf]; omega
            · have c2 : (s[k].toNat : Int) ≤ 122 := by omega
              clear hok
              go_wp2
              go_round
              case rel => exact ⟨k + 1, by omega, by go_num⟩
              case measure => simp [intOf]; omega
          · have hbad : ¬ ((97 ≤ (s[k].toNat : Int) ∧ (s[k].toNat : Int) ≤ 122) ∨ (48 ≤ (s[k].toNat : Int) ∧ (s[k].toNat : Int) ≤ 57)) := fun g => hok ((okByte_iff _).2 g)
            clear hok
            by_cases c1 : (s[k].toNat : Int) < 97
            · by_cases c2 : (s[k].toNat : Int) < 48
              · clear hbad
                go_wp2
                go_ret
                exact ⟨ret_bool HV.out.symm, rfl⟩
              · have c3 : 57 < (s[k].toNat : Int) := by omega
                clear hbad
                go_wp2
                go_ret
                exact ⟨ret_bool HV.out.symm, rfl⟩
            · have c2 : 122 < (s[k].toNat : Int) := by omega
              have c3 : 57 < (s[k].toNat : Int) := by omega
              have c4 : ¬ (s[k].toNat : Int) < 48 := by omega
              clear hbad
              go_wp2
              go_ret
              exact ⟨ret_bool HV.out.symm, rfl⟩
    · have HV := Lib.hid (show isName s = false by simp [isName, h2])
      have h3 : 12 < s.size := by omega
      clear h2
      go_enter Tryz.func49, Tryz.ntmps49
      go_wp2
      go_ret
      exact ⟨ret_bool HV.out.symm, rfl⟩
  · have HV := Lib.hid (show isName s = false by simp [isName, h1])
    have h3 : s.size < 1 := by omega
    clear h1
    go_enter Tryz.func49, Tryz.ntmps49
    go_wp2
    go_ret
    exact ⟨ret_bool HV.out.symm, rfl⟩

set_option maxHeartbeats 800000 in
theorem name_any (s : ByteArray) (w : World) (hs : s.size ≤ maxLen) :
    Calls Tryz.prog 104 #[.string s] w fun e w' => e = .returned (.bool (isName s)) ∧ w = w' := by
  unfold maxLen at hs
  by_cases h1 : 1 ≤ s.size
  · have hne : (s.toList == ([] : List UInt8)) = false := by
      rw [Lib.toList_data]
      cases hl : s.data.toList with
      | nil => have : s.size = 0 := by rw [← ByteArray.size_data, ← Array.length_toList, hl]; rfl
               omega
      | cons x t => rfl
    by_cases h2 : s.size ≤ 12
    · by_cases hall : s.data.toList.all okByte = true
      · have HV := Lib.hid (show isName s = true by simp [isName, h1, h2, hall])
        have HA := Lib.hid (all_ok hall)
        clear hall
        go_enter Tryz.func104, Tryz.ntmps104
        go_wp2
        go_loop [14] (fun i => ∃ k : Nat, k ≤ s.size ∧ i = .int .i64 k) (fun i => s.size - (intOf i).toNat)
        case atStart => exact ⟨0, Nat.zero_le _, rfl⟩
        case round =>
          obtain ⟨k, hk, rfl⟩ := hrel
          by_cases hlt : k < s.size
          · have hok := (okByte_iff _).1 (HA.out k hlt)
            by_cases c1 : 97 ≤ (s[k].toNat : Int)
            · have c2 : (s[k].toNat : Int) ≤ 122 := by omega
              clear hok
              go_wp2
              go_round
              case rel => exact ⟨k + 1, by omega, by go_num⟩
              case measure => simp [intOf]; omega
            · have c2 : 48 ≤ (s[k].toNat : Int) := by omega
              have c3 : (s[k].toNat : Int) ≤ 57 := by omega
              clear hok
              go_wp2_with (go_at_call 155; refine (digit_yes _ _ c2 c3).mono ?_; rintro e w' ⟨rfl, rfl⟩)
              go_round
              case rel => exact ⟨k + 1, by omega, by go_num⟩
              case measure => simp [intOf]; omega
          · go_wp2
            go_ret
            exact ⟨ret_bool HV.out.symm, rfl⟩
      · have HV := Lib.hid (show isName s = false by simp only [isName, Bool.and_eq_false_iff]; exact .inr (by simpa using hall))
        obtain ⟨j, hj, hbad⟩ := not_all_ok hall
        have HB := Lib.hid hbad
        clear hall hbad
        go_enter Tryz.func104, Tryz.ntmps104
        go_wp2
        go_loop [14] (fun i => ∃ k : Nat, k ≤ j ∧ i = .int .i64 k) (fun i => s.size - (intOf i).toNat)
        case atStart => exact ⟨0, Nat.zero_le _, rfl⟩
        case round =>
          obtain ⟨k, hk, rfl⟩ := hrel
          have hlt : k < s.size := by omega
          by_cases hok : okByte s[k] = true
          · have hkj : k + 1 ≤ j := by
              rcases Nat.lt_or_eq_of_le hk with g | g
              · exact g
              · subst g; rw [HB.out] at hok; cases hok
            have hok := (okByte_iff _).1 hok
            by_cases c1 : 97 ≤ (s[k].toNat : Int)
            · have c2 : (s[k].toNat : Int) ≤ 122 := by omega
              clear hok
              go_wp2
              go_round
              case rel => exact ⟨k + 1, by omega, by go_num⟩
              case measure => simp [intOf]; omega
            · have c2 : 48 ≤ (s[k].toNat : Int) := by omega
              have c3 : (s[k].toNat : Int) ≤ 57 := by omega
              clear hok
              go_wp2_with (go_at_call 155; refine (digit_yes _ _ c2 c3).mono ?_; rintro e w' ⟨rfl, rfl⟩)
              go_round
              case rel => exact ⟨k + 1, by omega, by go_num⟩
              case measure => simp [intOf]; omega
          · have hbad : ¬ ((97 ≤ (s[k].toNat : Int) ∧ (s[k].toNat : Int) ≤ 122) ∨ (48 ≤ (s[k].toNat : Int) ∧ (s[k].toNat : Int) ≤ 57)) := fun g => hok ((okByte_iff _).2 g)
            have c4 : (s[k].toNat : Int) < 48 ∨ 57 < (s[k].toNat : Int) := by omega
            have C4 := Lib.hid c4
            clear hok
            by_cases c1 : 97 ≤ (s[k].toNat : Int)
            · have c2 : decide ((s[k].toNat : Int) ≤ 122) = false := by
                have : 122 < (s[k].toNat : Int) := by omega
                simpa using this
              clear hbad c4
              go_wp2_with (go_at_call 155; refine (digit_no _ _ C4.out).mono ?_; rintro e w' ⟨rfl, rfl⟩)
              go_ret
              exact ⟨ret_bool HV.out.symm, rfl⟩
            · clear hbad c4
              go_wp2_with (go_at_call 155; refine (digit_no _ _ C4.out).mono ?_; rintro e w' ⟨rfl, rfl⟩)
              go_ret
              exact ⟨ret_bool HV.out.symm, rfl⟩
    · have HV := Lib.hid (show isName s = false by simp [isName, h2])
      have h3 : 12 < s.size := by omega
      clear h2
      go_enter Tryz.func104, Tryz.ntmps104
      go_wp2
      go_ret
      exact ⟨ret_bool HV.out.symm, rfl⟩
  · have HV := Lib.hid (show isName s = false by simp [isName, h1])
    have h0 : s = ByteArray.empty := by
      have : s.size = 0 := by omega
      exact empty_of_size this
    subst h0
    clear h1
    go_enter Tryz.func104, Tryz.ntmps104
    go_wp2
    go_ret
    exact ⟨ret_bool HV.out.symm, rfl⟩

end Go.Proofs.YtflllkpnkcmegaaGreatDoor

/- Plain arithmetic under quantities: products by halves, parts by a thousand, division of 128 bits by a thousand. Nothing of Go. -/
namespace Go.Proofs.YtflllkpnkcmegaaGreatDoor.Vec
open Go.RowKit
set_option linter.unusedVariables false

end Go.Proofs.YtflllkpnkcmegaaGreatDoor.Vec

/- That a world only grows: some draws, some blocks laid behind. -/
namespace Go.Proofs.YtflllkpnkcmegaaGreatDoor
open Go.RowKit Go.Sort
set_option linter.unusedVariables false

/-- Some draws, some blocks laid behind. -/
def Grw (w w' : World) : Prop := ∃ q os, w' = grow (w.drewN q) os
theorem Grw.refl (w : World) : Grw w w := ⟨0, #[], by rw [grow_empty]; rfl⟩
theorem Grw.grown {w W : World} (h : Grw w W) (n : Nat) (os : Array Obj) : Grw w (grow (W.drewN n) os) := by
  obtain ⟨q, os0, rfl⟩ := h
  exact ⟨q + n, os0 ++ os, by show grow (grow ((w.drewN q).drewN n) os0) os = _; rw [grow_grow, World.drewN_drewN]⟩
theorem Grw.trans {a b c : World} (h : Grw a b) (k : Grw b c) : Grw a c := by
  obtain ⟨q, os, rfl⟩ := k
  exact h.grown q os
theorem Grw.alloc (w : World) (o : Obj) : Grw w (w.alloc o) := ⟨0, #[o], alloc_eq_grow _ _⟩
theorem Grw.drewN (w : World) (n : Nat) : Grw w (w.drewN n) := ⟨n, #[], by rw [grow_empty]⟩
theorem kept_grow (w : World) (n : Nat) (os : Array Obj) : Kept w (grow (w.drewN n) os) := Go.Lib.below_grow w.heap.size w (Nat.le_refl _) n os
theorem Grw.kept {w w' : World} (h : Grw w w') : Kept w w' := by
  obtain ⟨q, os, rfl⟩ := h
  exact kept_grow w q os

end Go.Proofs.YtflllkpnkcmegaaGreatDoor

/- Rows and texts, of no program. -/
namespace Go.Proofs.YtflllkpnkcmegaaGreatDoor
open Go.RowKit
set_option linter.unusedVariables false

theorem drop_end {α : Type} {l : List α} {k : Nat} (h : ¬ k < l.length) : l.drop k = [] := List.drop_of_length_le (by omega)
theorem all_cons {α : Type} (f : α → Bool) (x : α) (t : List α) : (x :: t).all f = (f x && t.all f) := rfl
theorem take_snoc {α : Type} {l : List α} {k : Nat} {x : α} (h : l[k]? = some x) : l.take (k + 1) = l.take k ++ [x] := by rw [List.take_add_one, h]; rfl
theorem Own.snoc {α : Type} {L : Lay α} {e : TypeId} {w : World} {base n : Nat} {v : Value} {l : List α} {x : α} (h : w.ownsRow base e L.m v n (rowCells L l ++ L.cs x)) (hn : l.length + 1 = n) (hf : ∀ z ∈ l, L.fine z) (hx : L.fine x) : Own L e w base v (l ++ [x]) := by
  refine ⟨?_, fun z hz => ?_⟩
  · rw [List.length_append, rowCells_append]
    show w.ownsRow base e L.m v (l.length + 1) (rowCells L l ++ rowCells L [x])
    rw [hn]
    have e : rowCells L [x] = L.cs x := by unfold rowCells; simp
    rw [e]; exact h
  · rcases List.mem_append.1 hz with g | g
    · exact hf z g
    · have : z = x := by simpa using g
      rw [this]; exact hx
/-- One value answered; nothing that was there has changed. -/
def Say (v : Value) (w : World) (e : Ending) (w' : World) : Prop := e = .returned v ∧ Kept w w'
theorem Reads.nil {α : Type} {L : Lay α} (w : World) : Reads L w (.slice none 0 0) [] := ⟨none, 0, rfl, Nat.le_refl _, by decide, RowAt.nil w none⟩
theorem Reads.fine {α : Type} {L : Lay α} {v : Value} {l : List α} {w : World} (h : Reads L w v l) : ∀ x ∈ l, L.fine x := by
  obtain ⟨a, cap, rfl, h1, h2, h3⟩ := h
  exact h3.2.2.1
theorem RowAt.part {α : Type} {L : Lay α} {w : World} {b off len : Nat} {l : List α} (h : RowAt L w (some ⟨b, off, none⟩) len l) (i n : Nat) (hi : i + n ≤ len) :
    RowAt L w (some ⟨b, off + i * L.m, none⟩) n ((l.drop i).take n) := by
  obtain ⟨h0, h1, h2, h3⟩ := h
  refine ⟨by rw [List.length_take, List.length_drop]; omega, by omega, fun x hx => h2 x (List.mem_of_mem_drop (List.mem_of_mem_take hx)), ?_⟩
  rcases h3 with h3 | ⟨b', off', e, hb, hc⟩
  · exact .inl (by omega)
  · injection e with e; injection e with e1 e2 e3; subst e1; subst e2
    refine .inr ⟨b, _, rfl, hb, fun k x j u hk hj => ?_⟩
    have hkn : k < n := by have := (List.getElem?_eq_some_iff.1 hk).1; rw [List.length_take] at this; omega
    have hk' : l[i + k]? = some x := by
      rw [List.getElem?_take, if_pos hkn, List.getElem?_drop] at hk; exact hk
    have := hc (i + k) x j u hk' hj
    rw [show off + i * L.m + k * L.m + j = off + (i + k) * L.m + j by rw [Nat.add_mul]; omega]
    exact this
theorem strInfo : (Tryz.prog.info? 9).map (fun i => (i.zero, i.size, i.bytes)) = some (some (.string ByteArray.empty), 1, 16) := by kernel_rfl
/-- The first k texts, behind them empty ones. -/
def fills (ts : List ByteArray) (n k : Nat) : List Value := (ts.take k).map Value.string ++ List.replicate (n - k) (.string ByteArray.empty)
theorem fills_zero (ts : List ByteArray) (n : Nat) : fills ts n 0 = List.replicate n (.string ByteArray.empty) := by simp [fills]
theorem fills_all {ts : List ByteArray} {n : Nat} (h : ts.length = n) : fills ts n n = ts.map Value.string := by
  unfold fills; rw [List.take_of_length_le (by omega), Nat.sub_self]; simp
theorem fills_set {ts : List ByteArray} {n k : Nat} {x : ByteArray} (hl : ts.length = n) (hx : ts[k]? = some x) : (fills ts n k).set k (.string x) = fills ts n (k + 1) := by
  have hk : k < ts.length := (List.getElem?_eq_some_iff.1 hx).1
  unfold fills
  have e1 : ((ts.take k).map Value.string).length = k := by rw [List.length_map, List.length_take]; omega
  have e2 : n - k = (n - (k + 1)) + 1 := by omega
  rw [List.set_append_right _ _ (by omega), e1, Nat.sub_self, e2, List.replicate_succ, List.set_cons_zero, List.take_add_one, hx]
  simp
theorem ownsRow_kept {w w' : World} {base n : Nat} {e : TypeId} {m : Nat} {v : Value} {xs : List Value} (h : w.ownsRow base e m v n xs) (k : Kept w w') : w'.ownsRow base e m v n xs := by
  obtain ⟨h0, h1⟩ := h
  refine ⟨h0, h1.imp id ?_⟩
  rintro ⟨g, cap, cur, rfl, hbg, hg, hn, hm, hs, ht⟩
  refine ⟨g, cap, cur, rfl, hbg, ?_, hn, hm, hs, ht⟩
  have hlt : g < w.heap.size := by
    rcases Nat.lt_or_ge g w.heap.size with hlt | hge
    · exact hlt
    · rw [Array.getElem?_eq_none hge] at hg; cases hg
  exact (k.block g hlt).trans hg
theorem row_cells {w : World} {base p n cap : Nat} {e : TypeId} {xs : List ByteArray} (h : w.ownsRow base e 1 (.slice (some ⟨p, 0, none⟩) n cap) n (xs.map Value.string)) :
    ∀ (j : Nat) x, xs[j]? = some x → w.cell? ⟨p, 0 + j, none⟩ = some (.string x) := by
  intro j x hx
  have := h.cells (g := p) rfl j (.string x) (by simp [hx])
  rw [← this]
  congr 1
  unfold Addr.add
  split <;> simp_all
theorem row_at {w : World} {base p n cap : Nat} {e : TypeId} {xs : List Value} (h : w.ownsRow base e 1 (.slice (some ⟨p, 0, none⟩) n cap) n xs) {k : Nat} {u : Value} (hk : xs[k]? = some u) : w.cell? ⟨p, k, none⟩ = some u := by
  have := h.cells (g := p) rfl k u hk
  rw [← this]
  congr 1
  unfold Addr.add
  split <;> simp_all
theorem fills_at {ts : List ByteArray} {n k : Nat} (hl : ts.length = n) (hk : k < n) : (fills ts n k)[k]? = some (.string ByteArray.empty) := by
  unfold fills
  have e1 : ((ts.take k).map Value.string).length = k := by rw [List.length_map, List.length_take]; omega
  rw [List.getElem?_append_right (by omega), e1, Nat.sub_self, List.getElem?_replicate]
  rw [if_pos (by omega)]
theorem made_strings (n : Nat) : (madeCells (Value.string ByteArray.empty).cells (n * 1)).toList = List.replicate n (.string ByteArray.empty) := by
  simp [madeCells, Value.cells, Nat.mod_one, List.map_const']
def joinB (ts : List ByteArray) : ByteArray := ⟨(Lib.join (ts.map (·.data.toList)) [44]).toArray⟩
theorem joins_le : ∀ (ts : List ByteArray) (B : Nat), (∀ x ∈ ts, x.size ≤ B) → (Lib.join (ts.map (·.data.toList)) [44]).length ≤ ts.length * (B + 1)
  | [], B, _ => by simp [Lib.join]
  | [x], B, h => by
    have := h x (by simp)
    rw [List.map_cons, List.map_nil, Lib.join_one, Array.length_toList, ByteArray.size_data]; simp; omega
  | x :: y :: t, B, h => by
    have h1 := h x (by simp)
    have ih := joins_le (y :: t) B (fun z hz => h z (by simp [hz]))
    have e : (Lib.join ((x :: y :: t).map (·.data.toList)) [44]).length = x.size + 1 + (Lib.join ((y :: t).map (·.data.toList)) [44]).length := by
      have s : (Lib.join ((x :: y :: t).map (·.data.toList)) [44]) = x.data.toList ++ [44] ++ Lib.join ((y :: t).map (·.data.toList)) [44] := by simp [Lib.join, List.intercalate]
      rw [s, List.length_append, List.length_append, Array.length_toList, ByteArray.size_data]; rfl
    rw [e]
    simp only [List.length_cons] at ih ⊢
    rw [Nat.add_mul (t.length + 1) 1 (B + 1), Nat.one_mul]
    omega
theorem joinB_short {ts : List ByteArray} {B : Nat} (h : ∀ x ∈ ts, x.size ≤ B) : (joinB ts).size ≤ ts.length * (B + 1) := by
  have := joins_le ts B h
  unfold joinB
  simpa [ByteArray.size] using this
theorem join_cons2 (x y : List UInt8) (t : List (List UInt8)) : Lib.join (x :: y :: t) [44] = x ++ [44] ++ Lib.join (y :: t) [44] := by simp [Lib.join, List.intercalate]
end Go.Proofs.YtflllkpnkcmegaaGreatDoor

/- A range over a function whose body may panic: the round's contract out of its body's walk, the panic let through. -/
namespace Go.Proofs.YtflllkpnkcmegaaGreatDoor
open Go

/-- As the kit's 'roundPost'; a panic is let through (no deferred calls of the round's own). -/
def roundPostP (P : Program) (l : Nat) (R : Ending → World → Prop) : Exit → Act → World → Prop
  | .panic chain, a, w => a.defers = [] ∧ R (.panicked chain) w
  | .outgrown, _, _ => False
  | .normal, _, w => ∃ v w', (Instr.endRound l none).run P w = .ok v w' ∧ R (.returned v) w'
  | _, _, _ => False

theorem roundIn_of_wpIn_panic {F : Fence} {n : Nat} {P : Program} {l : Nat} {f : FuncId} {fn : Func} {tmps : Array Value} {assign body : Code} {w : World} {R : Ending → World → Prop} (hF : F.fn f) (hfn : P.funcs[f]? = some fn)
    (h : assign.wpIn (F.inRound l) n P (Exit.then (fun a₁ w₁ => ∃ w₂, (Instr.beginRound l).run P w₁ = .ok () w₂ ∧ body.wpIn (F.inRound l) n P (roundPostP P l R) a₁ w₂) (fun _ _ _ => False))
      { tmps := tmps, defers := [] } w) :
    RoundIn F n P l f tmps assign body w R := by
  refine ⟨hF, fun c cs hr => ?_⟩
  let b : Frame := { (default : Frame) with fn := f, kind := .normal, roundOf := some l }
  have hb0 : Frame.round l f tmps assign body .normal = b.atR { tmps := tmps, defers := [] } [.code assign, .beginRound, .code body] := by
    simp [Frame.round, Frame.atR, b]
  have hr' : (F.inRound l).room ((c :: cs).length + 1 + n) := hr
  have hF' : (F.inRound l).fn b.fn := hF
  obtain ⟨e, a₁, w₁, hq, harr⟩ := h b [.beginRound, .code body] (c :: cs) rfl hF' hr'
  rw [← hb0] at harr
  cases e with
  | normal =>
    obtain ⟨w₂, hbr, hbody⟩ := hq
    have s1 : StepsIn (Machine.fenced P (F.inRound l)) P (lone (b.atR a₁ [.beginRound, .code body]) (c :: cs) w₁) (lone (b.atR a₁ [.code body]) (c :: cs) w₂) :=
      .one (fenced_calm (fr := b.atR a₁ [.beginRound, .code body]) hF' hr' rfl) (stepR_beginRound rfl hbr)
    obtain ⟨e₂, a₂, w₃, hq₂, harr₂⟩ := hbody b [] (c :: cs) rfl hF' hr'
    cases e₂ with
    | normal =>
      obtain ⟨v, w₄, hend, hR⟩ := hq₂
      exact ⟨.returned v, w₄, hR, (StepsIn.trans harr s1).trans (StepsIn.trans harr₂ (.one (fenced_calm (fr := b.atR a₂ []) hF' hr' rfl) (stepR_round_end rfl rfl hend)))⟩
    | ret => exact hq₂.elim
    | exit id => exact hq₂.elim
    | goto t => exact hq₂.elim
    | panic chain =>
      obtain ⟨hd, hR⟩ := hq₂
      obtain ⟨todo, hs⟩ := harr₂
      have hl : ({ b.atR a₂ todo with mode := .panicking chain } : Frame).leaving P w₃ (.panicked chain) := ⟨rfl, hd, fn, hfn⟩
      exact ⟨.panicked chain, w₃, hR, (StepsIn.trans harr s1).trans (StepsIn.trans hs (.one (fenced_leaving (n := n) (F := F.inRound l) hF' hr' hl) (step_leave_panicked hl)))⟩
    | outgrown => exact hq₂.elim
  | exit id => exact hq.elim
  | goto t => exact hq.elim
  | ret => exact hq.elim
  | panic chain => exact hq.elim
  | outgrown => exact hq.elim

end Go.Proofs.YtflllkpnkcmegaaGreatDoor

/- A function's code walked at that function's own frames: its sequences, its blocks, its ranges over functions (their rounds' frames are then known to be a function's that is there). -/
namespace Go.Proofs.YtflllkpnkcmegaaGreatDoor
open Go
set_option linter.unusedVariables false

/-- The code c from frames of function fid alone. -/
def WpAt (fid : FuncId) (P : Program) (c : Code) (Q : Exit → Act → World → Prop) (a : Act) (w : World) : Prop :=
  ∀ (b : Frame) (k : List Item) (cs : List Frame), b.fn = fid → b.roundOf = none →
    ∃ e a' w', Q e a' w' ∧ ArrivesIn (Machine.fenced P Fence.wide) P (lone (b.atR a (.code c :: k)) cs w) b k cs e a' w'

section
variable {fid : FuncId} {P : Program} {Q : Exit → Act → World → Prop} {a : Act} {w : World}

theorem wpAt_of {n : Nat} {c : Code} (h : c.wpIn Fence.wide n P Q a w) : WpAt fid P c Q a w :=
  fun b k cs _ hro => h b k cs hro trivial (room_wide _)

theorem wpAt_seq {x y : Code} (h : WpAt fid P x (Exit.then (WpAt fid P y Q) Q) a w) : WpAt fid P (Code.seq x y) Q a w := by
  intro b k cs hb hro
  obtain ⟨e, a₁, w₁, hq, harr⟩ := h b (.code y :: k) cs hb hro
  have h0 := StepsIn.one (I := Machine.fenced P Fence.wide) (fenced_wide P _) (stepR_seq (P := P) (b := b) (a := a) (k := k) (cs := cs) (w := w) (x := x) (y := y))
  cases e with
  | normal =>
    obtain ⟨e₂, a₂, w₂, hq₂, harr₂⟩ := hq b k cs hb hro
    exact ⟨e₂, a₂, w₂, hq₂, .of_steps (h0.trans harr) harr₂⟩
  | exit id => exact ⟨_, a₁, w₁, hq, .of_steps h0 (.pass (x := .code y) rfl (fun _ _ => .inl (by simp)) harr)⟩
  | goto l => exact ⟨_, a₁, w₁, hq, .of_steps h0 (.pass (x := .code y) rfl (fun _ _ => .inl (by simp)) harr)⟩
  | ret => exact ⟨_, a₁, w₁, hq, .of_steps h0 (.pass (x := .code y) rfl (fun _ _ => .inl (by simp)) harr)⟩
  | panic ch => exact ⟨_, a₁, w₁, hq, .of_steps h0 (.pass (x := .code y) rfl (fun _ _ => .inl (by simp)) harr)⟩
  | outgrown => exact ⟨_, a₁, w₁, hq, .of_steps h0 (.pass (x := .code y) rfl (fun _ _ => .inl (by simp)) harr)⟩

/-- A block that is left off its end, or by a panic. -/
def blockPost (Q : Exit → Act → World → Prop) : Exit → Act → World → Prop
  | .normal, a, w => Q .normal a w
  | .panic c, a, w => Q (.panic c) a w
  | _, _, _ => False
theorem wpAt_block {id : Nat} {c : Code} (h : WpAt fid P c (blockPost Q) a w) : WpAt fid P (Code.block id c) Q a w := by
  intro b k cs hb hro
  obtain ⟨e, a₁, w₁, hq, harr⟩ := h b (.inBlock id :: k) cs hb hro
  have h0 := StepsIn.one (I := Machine.fenced P Fence.wide) (fenced_wide P _) (stepR_block (P := P) (b := b) (a := a) (k := k) (cs := cs) (w := w) (id := id) (c := c))
  cases e with
  | normal => exact ⟨.normal, a₁, w₁, hq, (h0.trans harr).trans (.one (fenced_wide P _) stepR_inBlock)⟩
  | panic ch => obtain ⟨todo, hs⟩ := harr; exact ⟨.panic ch, a₁, w₁, hq, todo, h0.trans hs⟩
  | exit id => exact hq.elim
  | goto l => exact hq.elim
  | ret => exact hq.elim
  | outgrown => exact hq.elim

/-- What is asked when the function that was ranged over has ended: no round has left a jump. -/
def atRangePost (P : Program) (l : Nat) (Q : Exit → Act → World → Prop) (a' : Act) : Ending → World → Prop
  | .returned _, w₃ => ∃ w₄, (Instr.endLoop l).run P w₃ = .ok none w₄ ∧ Q .normal a' w₄
  | .panicked chain, w₃ => Q (.panic chain) a' w₃
  | .outgrown, _ => False

theorem wpAt_rangeFunc {n : Nat} {g : Operand} {ps : Array Tmp} {assign body : Code} {l : Nat} {mark : List Deferred} {w₁ : World} {d : Deferred} {f : FuncId} {args : Array Value}
    (he : (Instr.enterLoop fid a.tmps ps assign body none).run P w = .ok (l, mark) w₁) (hres : (resolve a.eval (rangeCall g l) 0).run P w₁ = .ok d w₁) (hinv : (invoke d.target d.args).run P w₁ = .ok (.enter f args) w₁)
    (hcall : CallsIn Fence.wide n P f args w₁ (atRangePost P l Q { a with defers := mark ++ a.defers })) : WpAt fid P (Code.rangeFunc g ps assign body) Q a w := by
  intro b k cs hb hro
  have henter := stepR_rangeFunc (P := P) (b := b) (a := a) (k := k) (cs := cs) (w := w) (by rw [hb, hro]; exact he) hres hinv
  obtain ⟨e, w₃, fr, hR, hsteps, hfn, hleave⟩ := hcall.2 (b.atR { a with defers := mark ++ a.defers } (.inRangeFunc l :: k) :: cs) (room_wide _)
  cases e with
  | outgrown => exact hR.elim
  | returned v =>
    obtain ⟨w₄, hend, hq⟩ := hR
    have back := step_leave_returned (c := b.atR { a with defers := mark ++ a.defers } (.inRangeFunc l :: k)) (cs := cs) hleave
    rw [finish_atR_inRangeFunc] at back
    exact ⟨.normal, _, w₄, hq, .head (fenced_wide P _) henter (StepsIn.trans hsteps (.head (fenced_wide P _) back (.one (fenced_wide P _) (stepR_endRangeFunc (jump := none) hend))))⟩
  | panicked chain =>
    have back := step_leave_panicked (c := b.atR { a with defers := mark ++ a.defers } (.inRangeFunc l :: k)) (cs := cs) hleave
    rw [Frame.raise_atR] at back
    exact ⟨.panic chain, _, w₃, hR, .inRangeFunc l :: k, .head (fenced_wide P _) henter (StepsIn.trans hsteps (.one (fenced_wide P _) back))⟩

/-- A function's contract from its body. -/
theorem calls_of_wpAt {n : Nat} {fn : Func} {c : Code} {args : Array Value} {R : Ending → World → Prop} (hf : P.funcs[fid]? = some fn) (hb : fn.body = some c)
    (h : WpAt fid P c (bodyPostM Fence.wide n P fn R) { tmps := args ++ Array.replicate (fn.ntmps - args.size) undef, defers := [] } w) : Calls P fid args w R := by
  refine (callsIn_wide (n := n)).1 ⟨trivial, fun cs _ => ?_⟩
  let b : Frame := { (default : Frame) with fn := fid, kind := .normal, roundOf := none }
  have henter : Frame.enter P fid args .normal = b.atR { tmps := args ++ Array.replicate (fn.ntmps - args.size) undef, defers := [] } [.code c] := by
    simp [Frame.enter, Frame.atR, hf, hb, b]
  obtain ⟨e, a', w', hq, harr⟩ := h b [] cs rfl rfl
  rw [← henter] at harr
  cases e with
  | normal =>
    obtain ⟨e', w'', fr', hR, hs, hfn, hl⟩ := leaves_stepsInM (F := Fence.wide) (n := n) a'.defers .returning w' { b.atR a' [] with mode := .returning } cs rfl rfl rfl hf rfl trivial (room_wide _) hq
    exact ⟨e', w'', fr', hR, ComesIn.of_steps (StepsIn.trans harr (.one (fenced_wide P _) (stepR_end rfl))) hs, hfn, hl⟩
  | ret =>
    obtain ⟨todo, hs₀⟩ := harr.1 rfl
    obtain ⟨e', w'', fr', hR, hs, hfn, hl⟩ := leaves_stepsInM (F := Fence.wide) (n := n) a'.defers .returning w' { b.atR a' todo with mode := .returning } cs rfl rfl rfl hf rfl trivial (room_wide _) hq
    exact ⟨e', w'', fr', hR, ComesIn.of_steps hs₀ hs, hfn, hl⟩
  | panic chain =>
    obtain ⟨todo, hs₀⟩ := harr
    obtain ⟨e', w'', fr', hR, hs, hfn, hl⟩ := leaves_stepsInM (F := Fence.wide) (n := n) a'.defers (.panicking chain) w' { b.atR a' todo with mode := .panicking chain } cs rfl rfl rfl hf rfl trivial (room_wide _) hq
    exact ⟨e', w'', fr', hR, ComesIn.of_steps hs₀ hs, hfn, hl⟩
  | exit id => exact hq.elim
  | goto l => exact hq.elim
  | outgrown => exact ⟨.outgrown, w', b, hq, harr.resolve_left (by simp [b]), rfl, trivial⟩
end

end Go.Proofs.YtflllkpnkcmegaaGreatDoor

/- The library's sequence of a text's parts, ranged over: whatever the rounds do, a panic of theirs let through. -/
namespace Go.Proofs.YtflllkpnkcmegaaGreatDoor
open Go.RowKit Go.Shelf
set_option linter.unusedVariables false

def bytes (l : List UInt8) : ByteArray := ⟨l.toArray⟩

/-- A text's parts between commas. -/
def partsOf : List UInt8 → List (List UInt8)
  | [] => [[]]
  | c :: t =>
    if c = 44 then [] :: partsOf t
    else match partsOf t with
      | [] => [[c]]
      | p :: ps => (c :: p) :: ps

theorem partsOf_cons (c : UInt8) (t : List UInt8) : partsOf (c :: t) = if c = 44 then [] :: partsOf t else match partsOf t with
      | [] => [[c]]
      | p :: ps => (c :: p) :: ps := rfl

theorem partsOf_ne (l : List UInt8) : partsOf l ≠ [] := by
  cases l with
  | nil => simp [partsOf]
  | cons c t => unfold partsOf; split; simp; split <;> simp

theorem index_comma (c : UInt8) (t : List UInt8) : Lib.index (c :: t) [44] = if c = 44 then 0 else if Lib.index t [44] == -1 then -1 else Lib.index t [44] + 1 := by
  rw [Lib.index]
  by_cases h : c = 44
  · subst h; rfl
  · rw [if_neg h, if_neg (by simp [List.isPrefixOf]; exact fun e => h e.symm)]

theorem parts_none : ∀ (l : List UInt8), Lib.index l [44] < 0 → partsOf l = [l]
  | [], _ => rfl
  | c :: t, h => by
    rw [index_comma] at h
    by_cases hc : c = 44
    · rw [if_pos hc] at h; omega
    · rw [if_neg hc] at h
      have ht : Lib.index t [44] < 0 := by
        split at h
        · rename_i e; have : Lib.index t [44] = -1 := by simpa using e
          omega
        · omega
      unfold partsOf
      rw [if_neg hc, parts_none t ht]

theorem parts_some : ∀ (l : List UInt8) (i : Nat), Lib.index l [44] = (i : Int) → i < l.length ∧ partsOf l = l.take i :: partsOf (l.drop (i + 1))
  | [], i, h => by simp [Lib.index] at h
  | c :: t, i, h => by
    rw [index_comma] at h
    by_cases hc : c = 44
    · rw [if_pos hc] at h
      obtain rfl : i = 0 := by omega
      refine ⟨by simp, ?_⟩
      rw [partsOf_cons, if_pos hc]; rfl
    · rw [if_neg hc] at h
      split at h
      · omega
      · rename_i e
        have hge := Lib.index_ge t [44]
        have hne : Lib.index t [44] ≠ -1 := by simpa using e
        obtain ⟨j, hj⟩ := Int.eq_ofNat_of_zero_le (show 0 ≤ Lib.index t [44] by omega)
        obtain ⟨h1, h2⟩ := parts_some t j hj
        obtain rfl : i = j + 1 := by omega
        refine ⟨by simpa using h1, ?_⟩
        rw [partsOf, if_neg hc, h2]
        simp

/-- What a round leaves the iterator. -/
def IterKept (b1 b2 b3 : Nat) (W W' : World) : Prop :=
  ∀ b, b = b1 ∨ b = b2 ∨ b = b3 → W'.cell? ⟨b, 0, none⟩ = W.cell? ⟨b, 0, none⟩ ∧ W'.frozen? ⟨b, 0, none⟩ = W.frozen? ⟨b, 0, none⟩

def strLen (w : World) (b : Nat) : Nat := match w.cell? ⟨b, 0, none⟩ with
  | some (.string s) => s.size
  | _ => 0

/-- What the iterator asks of the rounds. -/
structure Rounds (F : Fence) (n : Nat) (l b1 b2 b3 : Nat) (ps : List (List UInt8)) (J : Nat → World → Prop) (Jp : List PanicEntry → World → Prop) : Prop where
  yields : ∀ (k : Nat) (p : List UInt8) (W : World), ps[k]? = some p → J k W → YieldAt F (n - 1) Tryz.prog l #[.string (bytes p)] W fun e W' =>
    (e = .returned (.bool true) ∧ J (k + 1) W' ∧ IterKept b1 b2 b3 W W') ∨ (∃ c, e = .panicked c ∧ Jp c W')
  store : ∀ (k : Nat) (W : World) (s : ByteArray), J k W → J k (W.setCell ⟨b2, 0, none⟩ (.string s))
  drew : ∀ (k : Nat) (W : World) (n : Nat), J k W → J k (W.drewN n)
  env : ∀ (k : Nat) (W : World), J k W → ∃ m, W.cell? ⟨1, 0, none⟩ = some (.int .i64 m)

/-- How it ends. -/
def IterEnds (N : Nat) (J : Nat → World → Prop) (Jp : List PanicEntry → World → Prop) (e : Ending) (w' : World) : Prop :=
  ((∃ v, e = .returned v) ∧ J N w') ∨ (∃ c, e = .panicked c ∧ Jp c w')

set_option maxHeartbeats 1600000 in
theorem split_iter (n : Nat) (hn : 1 ≤ n) (l b1 b2 b3 : Nat) (s : List UInt8) (hs : s.length ≤ 1000000) (J : Nat → World → Prop) (Jp : List PanicEntry → World → Prop)
    (hY : Rounds Fence.wide n l b1 b2 b3 (partsOf s) J Jp) (h12 : b1 ≠ b2) (h32 : b3 ≠ b2) (W : World)
    (c1 : W.cell? ⟨b1, 0, none⟩ = some (.string ⟨#[44]⟩)) (c2 : W.cell? ⟨b2, 0, none⟩ = some (.string (bytes s))) (c3 : W.cell? ⟨b3, 0, none⟩ = some (.int .i64 0))
    (z2 : W.frozen? ⟨b2, 0, none⟩ = false) (h0 : J 0 W) :
    CallsIn Fence.wide n Tryz.prog 232 #[.func (.yield l) #[] #[], .pointer (some ⟨b1, 0, none⟩), .pointer (some ⟨b2, 0, none⟩), .pointer (some ⟨b3, 0, none⟩)] W (IterEnds (partsOf s).length J Jp) := by
  have HY := Lib.hid hY
  have H0 := Lib.hid h0
  clear hY h0
  refine callsIn_of_wp Tryz.func232 rfl trivial ?_ rfl
  simp only [Tryz.ntmps232, List.size_toArray, List.length_cons, List.length_nil, Nat.reduceAdd, Nat.reduceSub, Array.replicate_succ, Array.replicate_zero, List.push_toArray, List.append_toArray, List.nil_append, List.cons_append]
  gi_wp2
  gi_loopw [7] (fun i wr => ∃ (k : Nat) (rest : List UInt8), partsOf rest = (partsOf s).drop k ∧ rest.length ≤ s.length ∧ wr.cell? ⟨b1, 0, none⟩ = some (.string ⟨#[44]⟩) ∧ wr.cell? ⟨b2, 0, none⟩ = some (.string (bytes rest)) ∧ wr.cell? ⟨b3, 0, none⟩ = some (.int .i64 0) ∧ wr.frozen? ⟨b2, 0, none⟩ = false ∧ J k wr)
    (fun i wr => strLen wr b2)
  case atStart => exact ⟨0, s, rfl, Nat.le_refl _, c1, c2, c3, z2, H0.out⟩
  case round =>
    obtain ⟨k, rest, hp, hl, c1, c2, c3, z2, hJ⟩ := hrel
    have HJ := Lib.hid hJ
    have HP := Lib.hid hp
    have hl6 : rest.length ≤ 1000000 := Nat.le_trans hl hs
    have hsz : (bytes rest).size = rest.length := by simp [bytes, ByteArray.size]
    have HSZ := Lib.hid hsz
    obtain ⟨m, hm⟩ := HY.out.env k wr hJ
    by_cases hix : Lib.index rest [44] < 0
    · have hone := parts_none rest hix
      have IX := Lib.hid (show Calls Tryz.prog 207 #[.string (bytes rest), .string ⟨#[44]⟩] wr fun e w' => e = .returned (.int .i64 (Lib.index rest [44])) ∧ w' = wr from Tryz.strings_Index (bytes rest) ⟨#[44]⟩ m wr (by omega) hm)
      have hk : (partsOf s)[k]? = some rest := by
        have := congrArg (fun x => x[0]?) hp
        rw [hone] at this
        simpa using this.symm
      have HN := Lib.hid (show k + 1 = (partsOf s).length by
        have := congrArg List.length hp
        rw [hone, List.length_drop] at this
        simp only [List.length_cons, List.length_nil] at this
        omega)
      obtain ⟨fn, tmps, assign, body, hy, hR⟩ := HY.out.yields k rest wr hk hJ
      have HR := Lib.hid hR
      obtain ⟨ix, hixe⟩ : ∃ ix, Lib.index rest [44] = ix := ⟨_, rfl⟩
      rw [hixe] at IX hix
      clear hm hJ hp hone hk hR hsz hixe
      gi_wp2_with (refine ⟨trivial, ?_⟩; gi_at_call 207; refine (callsIn_wide.2 IX.out).mono ?_; rintro e w' ⟨rfl, rfl⟩)
      refine HR.out.mono ?_
      rintro e W' (⟨rfl, hJ', hk'⟩ | ⟨c, rfl, hp'⟩)
      · have HJ' := Lib.hid hJ'
        clear hJ' hk'
        gi_wp2
        go_end0
        exact .inl ⟨⟨_, rfl⟩, by rw [← HN.out]; exact HJ'.out⟩
      · have HP' := Lib.hid hp'
        clear hp'
        gi_wp2
        exact ⟨rfl, .inr ⟨c, rfl, HP'.out⟩⟩
    · obtain ⟨i, hi⟩ := Int.eq_ofNat_of_zero_le (show 0 ≤ Lib.index rest [44] by omega)
      obtain ⟨hlt, hsome⟩ := parts_some rest i hi
      have IX := Lib.hid (show Calls Tryz.prog 207 #[.string (bytes rest), .string ⟨#[44]⟩] wr fun e w' => e = .returned (.int .i64 (i : Int)) ∧ w' = wr by
        have := Tryz.strings_Index (bytes rest) ⟨#[44]⟩ m wr (by omega) hm
        rw [show Lib.index (bytes rest).data.toList [44] = (i : Int) from hi] at this
        exact this)
      have hk : (partsOf s)[k]? = some (rest.take i) := by
        have := congrArg (fun x => x[0]?) hp
        rw [hsome] at this
        simpa using this.symm
      have HN := Lib.hid (show partsOf (rest.drop (i + 1)) = (partsOf s).drop (k + 1) by
        have := congrArg (fun x => x.drop 1) hp
        rw [hsome] at this
        simpa [List.drop_drop] using this)
      obtain ⟨fn, tmps, assign, body, hy, hR⟩ := HY.out.yields k (rest.take i) wr hk hJ
      have HR := Lib.hid hR
      have hfrag : (bytes rest).extract 0 i = bytes (rest.take i) := by
        apply Go.WideShapes.bytes_inj
        simp [bytes, ByteArray.data_extract]
      have hrest : (bytes rest).extract (i + 1) rest.length = bytes (rest.drop (i + 1)) := by
        apply Go.WideShapes.bytes_inj
        simp [bytes, ByteArray.data_extract, List.take_of_length_le]
      have HREST := Lib.hid hrest
      have HJ2 := Lib.hid HY.out.store
      clear hm hJ hp hsome hk hR hix hi hrest
      have hi1 : (i : Int) ≤ ((bytes rest).size : Int) := by rw [hsz]; omega
      gi_wp2_with (refine ⟨trivial, ?_⟩; gi_at_call 207; refine (callsIn_wide.2 IX.out).mono ?_; rintro e w' ⟨rfl, rfl⟩)
      refine HR.out.mono ?_
      rintro e W' (⟨rfl, hJ', hk'⟩ | ⟨c, rfl, hp'⟩)
      · have HJ' := Lib.hid hJ'
        obtain ⟨d1, y1⟩ := hk' b1 (.inl rfl)
        obtain ⟨d2, y2⟩ := hk' b2 (.inr (.inl rfl))
        obtain ⟨d3, y3⟩ := hk' b3 (.inr (.inr rfl))
        have e1 := d1.trans c1
        have e2 := d2.trans c2
        have e3 := d3.trans c3
        have x2 := y2.trans z2
        have hsz' := HSZ.out
        have hrest := HREST.out
        have hi2 : ((i : Int) + 1) ≤ ((bytes rest).size : Int) := by rw [hsz']; omega
        have hi3 : ((i : Int) + 1).toNat = i + 1 := by omega
        have E1 := Lib.hid e1
        have E2 := Lib.hid e2
        have E3 := Lib.hid e3
        have X2 := Lib.hid x2
        have C2 := Lib.hid c2
        clear hJ' hk' d1 d2 d3 y1 y2 y3 c1 c2 c3 z2
        gi_wp2
        go_roundw
        case rel =>
          exact ⟨k + 1, rest.drop (i + 1), HN.out, by rw [List.length_drop]; omega,
            by rw [World.cell?_setCell_other _ _ _ _ (by intro e; injection e with e; exact h12 e.symm)]; exact E1.out,
            World.cell?_setCell_same' _ _ _ (by rw [E2.out]; rfl),
            by rw [World.cell?_setCell_other _ _ _ _ (by intro e; injection e with e; exact h32 e.symm)]; exact E3.out,
            by rw [World.frozen?_setCell]; exact X2.out, HJ2.out _ _ _ HJ'.out⟩
        case measure =>
          unfold strLen
          rw [World.cell?_setCell_same' _ _ _ (by rw [E2.out]; rfl), C2.out]
          simp [bytes, ByteArray.size]
          omega
      · have HP' := Lib.hid hp'
        clear hp'
        gi_wp2
        exact ⟨rfl, .inr ⟨c, rfl, HP'.out⟩⟩

end Go.Proofs.YtflllkpnkcmegaaGreatDoor

/- Strings cut, counted, cloned. -/
namespace Go.Proofs.YtflllkpnkcmegaaGreatDoor
open Go.RowKit
set_option linter.unusedVariables false

/-- What the library leaves in memory that the calls read: a machine's measure. -/
structure Env (w : World) : Prop where
  most : ∃ m, w.cell? ⟨1, 0, none⟩ = some (.int .i64 m)
theorem Env.kept {w w' : World} (h : Env w) (k : Kept w w') : Env w' := by
  obtain ⟨m, hm⟩ := h
  exact ⟨m, cell_later k hm⟩
theorem bytes_size (p : List UInt8) : (bytes p).size = p.length := by simp [bytes, ByteArray.size]
theorem bytes_toList (p : List UInt8) : (bytes p).toList = p := by rw [Lib.toList_data]; simp [bytes]
theorem bytes_data (s : ByteArray) : bytes s.data.toList = s := by apply Go.WideShapes.bytes_inj; simp [bytes]
theorem cut_any (c : UInt8) (p : List UInt8) (w : World) (hE : Env w) (hp : p.length ≤ 1000000) :
    Calls Tryz.prog 161 #[.string (bytes p), .string ⟨#[c]⟩] w fun e w' => e = .returned (.tuple #[.string (bytes (Lib.cut p [c]).1), .string (bytes (Lib.cut p [c]).2.1), .bool (Lib.cut p [c]).2.2]) ∧ ∃ n, w' = w.drewN n := by
  obtain ⟨m, hm⟩ := hE.most
  exact Tryz.strings_Cut (bytes p) ⟨#[c]⟩ m w (by rw [bytes_size]; omega) hm
theorem clone_any (s : ByteArray) (w : World) (h : s.size ≤ 281474976710656) :
    Calls Tryz.prog 119 #[.string s] w fun e w' => e = .returned (.string s) ∧ Kept w w' := by
  go_enter Tryz.func119, Tryz.ntmps119
  go_wp2_with fail
  refine (Tryz.stringslite_Clone s _ h).mono ?_
  rintro e w' ⟨rfl, k⟩
  go_wp2
  go_ret
  exact ⟨rfl, k⟩
theorem kept_cell {w w' : World} (h : Kept w w') {a : Addr} (ha : w.heap.size ≤ a.block) (v : Value) : Kept w (w'.setCell a v) := Below.setCell h ha v
theorem cut_le (p q : List UInt8) : (Lib.cut p q).1.length ≤ p.length ∧ (Lib.cut p q).2.1.length ≤ p.length := by
  unfold Lib.cut
  split
  · simp; omega
  · simp
theorem count_le (p : List UInt8) (c : UInt8) : Lib.countByte p c ≤ p.length := List.count_le_length

end Go.Proofs.YtflllkpnkcmegaaGreatDoor

/- A byte counted. -/
namespace Go.Proofs.YtflllkpnkcmegaaGreatDoor
open Go.RowKit
set_option linter.unusedVariables false

theorem count_any (c : UInt8) (p : List UInt8) (w : World) :
    Calls Tryz.prog 195 #[.string (bytes p), .string ⟨#[c]⟩] w fun e w' => e = .returned (.int .i64 (Lib.countByte p c)) ∧ w' = w := Tryz.strings_Count_one (bytes p) c w

end Go.Proofs.YtflllkpnkcmegaaGreatDoor

/- 'for part := range SplitSeq(s, ",") { .. }' whose body may panic: one law. -/
namespace Go.Proofs.YtflllkpnkcmegaaGreatDoor
open Go.RowKit Go.Shelf
set_option linter.unusedVariables false
attribute [local go_sem] Oper.semAt_some

/-- What the loop's own doings leave as it was: all blocks but the text's box b2 and the two records D, D + 1. -/
structure St (b2 D : Nat) (W W' : World) : Prop where
  os : W'.os = W.os
  tape : W'.tape = W.tape
  output : W'.output = W.output
  size : W.heap.size ≤ W'.heap.size
  block : ∀ b, b ≠ b2 → b ≠ D → b ≠ D + 1 → W'.heap[b]? = W.heap[b]?

theorem St.setCell {b2 D : Nat} (W : World) (v : Value) : St b2 D W (W.setCell ⟨b2, 0, none⟩ v) :=
  ⟨rfl, rfl, rfl, by show W.heap.size ≤ (W.heap.modify _ _).size; rw [Array.size_modify]; exact Nat.le_refl _, fun b h _ _ => Below.heap_setCell W ⟨b2, 0, none⟩ v b h⟩
theorem St.drewN {b2 D : Nat} (W : World) (n : Nat) : St b2 D W (W.drewN n) := ⟨rfl, rfl, rfl, Nat.le_refl _, fun _ _ _ _ => rfl⟩
theorem St.put {b2 D : Nat} (W : World) (o : Obj) : St b2 D W (W.putObj (D + 1) o) := ⟨rfl, rfl, rfl, by simp, fun b _ _ h => World.putObj_heap_other h⟩
theorem St.begin (b2 : Nat) (W : World) (o o' : Obj) : St b2 W.heap.size W ((W.alloc o).alloc o') :=
  ⟨rfl, rfl, rfl, by simp; omega, fun b _ h1 h2 => by
    by_cases h : b < W.heap.size
    · exact (Below.heap_alloc _ o' b (by simp; omega)).trans (Below.heap_alloc W o b h)
    · rw [Array.getElem?_eq_none (by simp; omega), Array.getElem?_eq_none (by omega)]⟩

/-- The blocks that a round must leave as they are. -/
def KeptAt (b1 b2 b3 D : Nat) (W W' : World) : Prop := ∀ b, b = b1 ∨ b = b2 ∨ b = b3 ∨ b = D ∨ b = D + 1 → W'.heap[b]? = W.heap[b]?
theorem KeptAt.trans {b1 b2 b3 D : Nat} {A B C : World} (h : KeptAt b1 b2 b3 D A B) (k : KeptAt b1 b2 b3 D B C) : KeptAt b1 b2 b3 D A C := fun b hb => (k b hb).trans (h b hb)
theorem KeptAt.drewN {b1 b2 b3 D : Nat} (W : World) (n : Nat) : KeptAt b1 b2 b3 D W (W.drewN n) := fun _ _ => rfl

/-- What the body is asked. -/
def BPost (b1 b2 b3 D k : Nat) (I : Nat → World → Prop) (JP : List PanicEntry → World → Prop) (W : World) : Exit → Act → World → Prop
  | .normal, _, W' => KeptAt b1 b2 b3 D W W' ∧ I (k + 1) W'
  | .panic c, a, W' => a.defers = [] ∧ KeptAt b1 b2 b3 D W W' ∧ JP c W'
  | _, _, _ => False

theorem iterKept_of {b1 b2 b3 : Nat} {W W' : World} (h : ∀ b, b = b1 ∨ b = b2 ∨ b = b3 → W'.heap[b]? = W.heap[b]?) : IterKept b1 b2 b3 W W' := fun b hb =>
  ⟨World.cell?_of_block (a := ⟨b, 0, none⟩) (h b hb), World.frozen?_of_block (a := ⟨b, 0, none⟩) (h b hb)⟩

set_option maxHeartbeats 1600000 in
theorem wpAt_split {g : Operand} {t : Tmp} {assign body : Code} {Q : Exit → Act → World → Prop} {a : Act} {w : World} {n fid : Nat} {fn : Func} (hfn : Tryz.prog.funcs[fid]? = some fn) (hn : 2 ≤ n)
    (b1 b2 b3 : Nat) (hg : a.eval g = .func (.func 232) #[] #[.pointer (some ⟨b1, 0, none⟩), .pointer (some ⟨b2, 0, none⟩), .pointer (some ⟨b3, 0, none⟩)])
    (s : List UInt8) (hs : s.length ≤ 1000000) (h12 : b1 ≠ b2) (h32 : b3 ≠ b2) (hb1 : b1 < w.heap.size) (hb2 : b2 < w.heap.size) (hb3 : b3 < w.heap.size)
    (c1 : w.cell? ⟨b1, 0, none⟩ = some (.string ⟨#[44]⟩)) (c2 : w.cell? ⟨b2, 0, none⟩ = some (.string (bytes s))) (c3 : w.cell? ⟨b3, 0, none⟩ = some (.int .i64 0)) (z2 : w.frozen? ⟨b2, 0, none⟩ = false)
    (I : Nat → World → Prop) (JP : List PanicEntry → World → Prop) (hI : ∀ k W W', I k W → St b2 w.heap.size W W' → I k W') (hE : ∀ k W, I k W → Env W) (h0 : I 0 w) (a₁ : ByteArray → Act)
    (hassign : ∀ (l : Nat) (x : ByteArray) (W : World) (K : Act → World → Prop), K (a₁ x) W →
      assign.wpIn (Fence.wide.inRound l) (n - 1) Tryz.prog (Exit.then K (fun _ _ _ => False)) { tmps := (#[t].zip #[Value.string x]).foldl (fun tt (p, v) => tt.setIfInBounds p v) a.tmps, defers := [] } W)
    (hbody : ∀ (l k : Nat) (p : List UInt8) (W : World), (partsOf s)[k]? = some p → I k W → w.heap.size + 2 ≤ W.heap.size → body.wpIn (Fence.wide.inRound l) (n - 1) Tryz.prog (BPost b1 b2 b3 w.heap.size k I JP W) (a₁ (bytes p)) W)
    (hdone : ∀ (W : World), I (partsOf s).length W → W.heap[w.heap.size]? = some (.deferred (some [])) → Q .normal { a with defers := { target := .collected w.heap.size, args := #[] } :: a.defers } W)
    (hpanic : ∀ (c : List PanicEntry) (W : World), JP c W → W.heap[w.heap.size]? = some (.deferred (some [])) → Q (.panic c) { a with defers := { target := .collected w.heap.size, args := #[] } :: a.defers } W) :
    WpAt fid Tryz.prog (Code.rangeFunc g #[t] assign body) Q a w := by
  obtain ⟨rec, hrec⟩ : ∃ rec : LoopState → Option Code → Loop, rec = fun st pe => { state := st, pending := pe, fn := fid, tmps := a.tmps, params := #[t], assign, body, defers := w.heap.size } := ⟨_, rfl⟩
  obtain ⟨W1, hW1⟩ : ∃ W1, (w.alloc (.deferred (some []))).alloc (.loop (rec .ready none)) = W1 := ⟨_, rfl⟩
  have hL1 : W1.heap[w.heap.size + 1]? = some (.loop (rec .ready none)) := by
    rw [← hW1]; have := World.alloc_heap_new (w.alloc (.deferred (some []))) (.loop (rec .ready none)); rwa [World.size_alloc] at this
  have hK1 : W1.heap[w.heap.size]? = some (.deferred (some [])) := by
    rw [← hW1]; exact (Below.heap_alloc _ _ _ (by simp)).trans (World.alloc_heap_new w _)
  have hS1 : St b2 w.heap.size w W1 := by rw [← hW1]; exact St.begin b2 w _ _
  have hB1 : Below w.heap.size w W1 := by rw [← hW1]; exact (kept_alloc w _).trans (kept_alloc _ _)
  refine wpAt_rangeFunc (n := n) (l := w.heap.size + 1) (mark := [{ target := .collected w.heap.size, args := #[] }]) (w₁ := W1) (d := { target := .fn (.func 232) #[.pointer (some ⟨b1, 0, none⟩), .pointer (some ⟨b2, 0, none⟩), .pointer (some ⟨b3, 0, none⟩)], args := #[.func (.yield (w.heap.size + 1)) #[] #[]] })
    (f := 232) (args := #[.func (.yield (w.heap.size + 1)) #[] #[], .pointer (some ⟨b1, 0, none⟩), .pointer (some ⟨b2, 0, none⟩), .pointer (some ⟨b3, 0, none⟩)]) ?_ ?_ ?_ ?_
  · rw [← hW1, hrec]; exact run_enterLoop_outer _ _ _ _ _
  · simp only [resolve, hg]
    simp [go_sem]
  · have eg := enters_of (P := Tryz.prog) Tryz.func232 (by kernel_rfl) rfl
    simp [invoke, go_sem, eg]
  · refine (split_iter n (by omega) (w.heap.size + 1) b1 b2 b3 s hs
      (fun k W => I k W ∧ W.heap[w.heap.size + 1]? = some (.loop (rec .ready none)) ∧ W.heap[w.heap.size]? = some (.deferred (some [])))
      (fun c W => JP c W ∧ W.heap[w.heap.size]? = some (.deferred (some [])))
      ⟨?_, ?_, ?_, ?_⟩ h12 h32 W1 ((hB1.cell (p := ⟨b1, 0, none⟩) hb1).trans c1) ((hB1.cell (p := ⟨b2, 0, none⟩) hb2).trans c2) ((hB1.cell (p := ⟨b3, 0, none⟩) hb3).trans c3)
      ((hB1.frozen (p := ⟨b2, 0, none⟩) hb2).trans z2) ⟨hI 0 w W1 h0 hS1, hL1, hK1⟩).mono ?_
    · rintro k p W hp ⟨hi, hl, hk⟩
      have hlt : w.heap.size + 1 < W.heap.size := (Array.getElem?_eq_some_iff.1 hl).1
      have hy := run_yield (P := Tryz.prog) (args := #[.string (bytes p)]) hl (by rw [hrec]; rfl)
      rw [hrec] at hy
      refine ⟨fid, _, assign, body, hy, roundIn_of_wpIn_panic trivial hfn ?_⟩
      refine hassign _ (bytes p) W _ ?_
      refine ⟨_, run_beginRound hl (by rw [hrec]), ?_⟩
      have hl2 : (W.putObj (w.heap.size + 1) (.loop { rec .ready none with state := .busy })).heap[w.heap.size + 1]? = some (.loop { rec .ready none with state := .busy }) := World.putObj_heap_same hlt
      have hk2 : (W.putObj (w.heap.size + 1) (.loop { rec .ready none with state := .busy })).heap[w.heap.size]? = some (.deferred (some [])) := (World.putObj_heap_other (by omega)).trans hk
      refine wpIn_mono (hbody _ k p _ hp (hI k _ _ hi (St.put W _)) (by simp; omega)) ?_
      rintro e a3 W3 hp3
      cases e with
      | normal =>
        obtain ⟨hk3, hi3⟩ := hp3
        have hl3 := (hk3 (w.heap.size + 1) (by simp)).trans hl2
        have hr := run_endRound (P := Tryz.prog) none hl3
        refine ⟨_, _, hr, .inl ⟨rfl, ⟨hI _ _ _ hi3 (St.put W3 _), ?_, ?_⟩, ?_⟩⟩
        · rw [World.putObj_heap_same (Array.getElem?_eq_some_iff.1 hl3).1, hrec]; rfl
        · exact ((World.putObj_heap_other (by omega)).trans (hk3 w.heap.size (by simp))).trans hk2
        · refine iterKept_of fun b hb => ?_
          have hbl : b ≠ w.heap.size + 1 := by rcases hb with h | h | h <;> omega
          exact ((World.putObj_heap_other hbl).trans (hk3 b (by rcases hb with h | h | h <;> simp [h]))).trans (World.putObj_heap_other hbl)
      | panic c =>
        obtain ⟨hd, hk3, hj⟩ := hp3
        exact ⟨hd, .inr ⟨c, rfl, hj, (hk3 w.heap.size (by simp)).trans hk2⟩⟩
      | ret => exact hp3.elim
      | exit id => exact hp3.elim
      | goto t => exact hp3.elim
      | outgrown => exact hp3.elim
    · rintro k W x ⟨hi, hl, hk⟩
      exact ⟨hI _ _ _ hi (St.setCell W _), (Below.heap_setCell W ⟨b2, 0, none⟩ _ _ (by simp; omega)).trans hl, (Below.heap_setCell W ⟨b2, 0, none⟩ _ _ (by simp; omega)).trans hk⟩
    · rintro k W m ⟨hi, hl, hk⟩
      exact ⟨hI _ _ _ hi (St.drewN W _), hl, hk⟩
    · rintro k W ⟨hi, _, _⟩
      exact (hE k W hi).most
    · rintro e W2 (⟨⟨v, rfl⟩, hi, hl, hk⟩ | ⟨c, rfl, hj, hk⟩)
      · exact ⟨_, run_endLoop (P := Tryz.prog) hl (by rw [hrec]; simp) |>.trans (by rw [hrec]), hdone _ (hI _ _ _ hi (St.put W2 _)) ((World.putObj_heap_other (by omega)).trans hk)⟩
      · exact hpanic c W2 hj hk

end Go.Proofs.YtflllkpnkcmegaaGreatDoor

/- parsed, what both kinds share: the boxes of a range over the parts, the row under way. -/
namespace Go.Proofs.YtflllkpnkcmegaaGreatDoor
open Go.RowKit Go.Shelf
set_option linter.unusedVariables false
attribute [local go_sem] Oper.semAt_some

/-- The world behind SplitSeq: three boxes more. -/
def boxes (w : World) (s : List UInt8) : World := ((w.alloc (.cells #[.string (bytes s)] 9)).alloc (.cells #[.string ⟨#[44]⟩] 9)).alloc (.cells #[.int .i64 0] 3)

theorem splitseq_any (s : List UInt8) (w : World) :
    Calls Tryz.prog 188 #[.string (bytes s), .string ⟨#[44]⟩] w fun e w' =>
      e = .returned (.func (.func 232) #[] #[.pointer (some ⟨w.heap.size + 1, 0, none⟩), .pointer (some ⟨w.heap.size, 0, none⟩), .pointer (some ⟨w.heap.size + 2, 0, none⟩)]) ∧ w' = boxes w s := by
  have hmf : ∀ (fn : Fn) (first cap : Array Value) (w : World), (Instr.makeFunc fn first cap).run Tryz.prog w = .ok (.func fn first cap) w := fun _ _ _ _ => rfl
  go_enter Tryz.func188, Tryz.ntmps188
  go_wp2
  go_ret
  exact ⟨rfl, rfl⟩

theorem boxes_size (w : World) (s : List UInt8) : (boxes w s).heap.size = w.heap.size + 3 := by simp [boxes]
theorem boxes_kept (w : World) (s : List UInt8) : Kept w (boxes w s) := ((kept_alloc w _).trans (kept_alloc _ _)).trans (kept_alloc _ _)
theorem boxes_cells (w : World) (s : List UInt8) : (boxes w s).cell? ⟨w.heap.size + 1, 0, none⟩ = some (.string ⟨#[44]⟩) ∧ (boxes w s).cell? ⟨w.heap.size, 0, none⟩ = some (.string (bytes s)) ∧ (boxes w s).cell? ⟨w.heap.size + 2, 0, none⟩ = some (.int .i64 0) ∧ (boxes w s).frozen? ⟨w.heap.size, 0, none⟩ = false := by
  unfold boxes
  refine ⟨?_, ?_, ?_, ?_⟩ <;> go_simp

theorem Below.st {B b2 D : Nat} {w W W' : World} (h : Below B w W) (k : St b2 D W W') (h2 : B ≤ b2) (hD : B ≤ D) : Below B w W' :=
  ⟨k.os.trans h.os, k.tape.trans h.tape, k.output.trans h.output, Nat.le_trans h.size k.size, fun b hb => (k.block b (by omega) (by omega) (by omega)).trans (h.block b hb)⟩
theorem below_put {B D : Nat} {w W : World} {o : Obj} (h : Below B w W) (hD : B ≤ D) : Below B w (W.putObj D o) :=
  ⟨h.os, h.tape, h.output, by rw [World.putObj_size]; exact h.size, fun b hb => (World.putObj_heap_other (by omega)).trans (h.block b hb)⟩
theorem Own.st {α : Type} {L : Lay α} {e : TypeId} {b2 D : Nat} {W W' : World} {v : Value} {l : List α} (h : Own L e W (D + 2) v l) (k : St b2 D W W') (h2 : b2 < D) : Own L e W' (D + 2) v l := by
  obtain ⟨⟨h0, h1⟩, hf⟩ := h
  refine ⟨⟨h0, h1.imp id ?_⟩, hf⟩
  rintro ⟨g, cap, cur, rfl, hbg, hg, hn, hm, hs, ht⟩
  exact ⟨g, cap, cur, rfl, hbg, (k.block g (by omega) (by omega) (by omega)).trans hg, hn, hm, hs, ht⟩
theorem Own.row {α : Type} {L : Lay α} {e : TypeId} {w : World} {B n : Nat} {v : Value} {l : List α} (h : Own L e w B v l) (hn : l.length = n) : w.ownsRow B e L.m v n (rowCells L l) := hn ▸ h.1

theorem box_new (W : World) (v : Value) (T : TypeId) : (W.alloc (.cells #[v] T)).cell? ⟨W.heap.size, 0, none⟩ = some v ∧ (W.alloc (.cells #[v] T)).frozen? ⟨W.heap.size, 0, none⟩ = false := by
  constructor <;> go_simp

theorem two_cells (w : World) (f v : Value) (T T' : TypeId) : ((w.alloc (.cells #[f] T)).alloc (.cells #[v] T')).cell? ⟨w.heap.size + 1, 0, none⟩ = some v ∧ ((w.alloc (.cells #[f] T)).alloc (.cells #[v] T')).frozen? ⟨w.heap.size + 1, 0, none⟩ = false ∧ ((w.alloc (.cells #[f] T)).alloc (.cells #[v] T')).cell? ⟨w.heap.size, 0, none⟩ = some f := by
  have h := box_new (w.alloc (.cells #[f] T)) v T'
  rw [World.size_alloc] at h
  exact ⟨h.1, h.2, cell_later (kept_alloc _ _) (box_new w f T).1⟩

/-- The box of the row under way. -/
def VBox {α : Type} (L : Lay α) (e : TypeId) (B vb : Nat) (l : List α) (W : World) : Prop := ∃ v, W.cell? ⟨vb, 0, none⟩ = some v ∧ W.frozen? ⟨vb, 0, none⟩ = false ∧ Own L e W B v l
theorem VBox.st {α : Type} {L : Lay α} {e : TypeId} {b2 D vb : Nat} {W W' : World} {l : List α} {B : Nat} (h : VBox L e B vb l W) (k : St b2 D W W') (hB : B = D + 2) (hvb : vb < b2) (h2 : b2 < D) : VBox L e B vb l W' := by
  subst hB
  obtain ⟨v, h1, h3, h4⟩ := h
  have hb := k.block vb (by omega) (by omega) (by omega)
  exact ⟨v, (World.cell?_of_block (a := ⟨vb, 0, none⟩) hb).trans h1, (World.frozen?_of_block (a := ⟨vb, 0, none⟩) hb).trans h3, h4.st k h2⟩
theorem st_cell {b2 D fb : Nat} {W W' : World} {v : Value} (h : W.cell? ⟨fb, 0, none⟩ = some v) (k : St b2 D W W') (hvb : fb < b2) (h2 : b2 < D) : W'.cell? ⟨fb, 0, none⟩ = some v :=
  (World.cell?_of_block (a := ⟨fb, 0, none⟩) (k.block fb (by omega) (by omega) (by omega))).trans h

theorem news3 (w : World) (o : Obj) (a b c : Value) (T : TypeId) : ∀ j u, [a, b, c][j]? = some u → ((w.alloc o).alloc (.cells #[a, b, c] T)).cell? ((⟨w.heap.size + 1, 0, none⟩ : Addr).add j) = some u := by
  have := World.news_of_block (cs := #[a, b, c]) (t := T) (fr := (0, 0)) ((w.alloc o).alloc_heap_new _)
  rw [World.size_alloc] at this
  exact this

/-- The first parts made, nine at most. -/
def accG {α : Type} (f : List UInt8 → α) (ps : List (List UInt8)) (k : Nat) : List α := ((ps.take k).map f).take 9
theorem accG_len {α : Type} {f : List UInt8 → α} {ps : List (List UInt8)} {k : Nat} (h : k ≤ ps.length) : (accG f ps k).length = min 9 k := by
  unfold accG; rw [List.length_take, List.length_map, List.length_take]; omega
theorem accG_next {α : Type} {f : List UInt8 → α} {ps : List (List UInt8)} {k : Nat} {p : List UInt8} (hp : ps[k]? = some p) (h : (accG f ps k).length ≤ 8) : accG f ps (k + 1) = accG f ps k ++ [f p] := by
  have hk : k < ps.length := (List.getElem?_eq_some_iff.1 hp).1
  rw [accG_len (by omega)] at h
  unfold accG
  have e : ps.take (k + 1) = ps.take k ++ [p] := by rw [List.take_add_one, hp]; rfl
  rw [e, List.map_append, List.take_of_length_le (l := (ps.take k).map f) (by simp; omega), List.take_of_length_le (by simp; omega)]
  rfl
theorem accG_full {α : Type} {f : List UInt8 → α} {ps : List (List UInt8)} {k : Nat} {p : List UInt8} (hp : ps[k]? = some p) (h : ¬ (accG f ps k).length ≤ 8) : accG f ps (k + 1) = accG f ps k := by
  have hk : k < ps.length := (List.getElem?_eq_some_iff.1 hp).1
  rw [accG_len (by omega)] at h
  unfold accG
  have e : ps.take (k + 1) = ps.take k ++ [p] := by rw [List.take_add_one, hp]; rfl
  rw [e, List.map_append, List.take_append_of_le_length (by simp; omega)]

theorem part_len : ∀ (s : List UInt8) (p : List UInt8), p ∈ partsOf s → p.length ≤ s.length
  | [], p, h => by
    have : p = [] := by simpa [partsOf] using h
    subst this; simp
  | c :: t, p, h => by
    rw [partsOf_cons] at h
    split at h
    · rcases List.mem_cons.1 h with rfl | h
      · simp
      · have := part_len t p h; simp; omega
    · cases hp : partsOf t with
      | nil => exact absurd hp (partsOf_ne t)
      | cons q qs =>
        rw [hp] at h
        rcases List.mem_cons.1 h with rfl | h
        · have := part_len t q (by rw [hp]; simp); simp; omega
        · have := part_len t p (by rw [hp]; simp [h]); simp; omega

theorem next_good {bad : List UInt8 → Bool} {ps : List (List UInt8)} {k : Nat} {p : List UInt8} (h : ∀ q ∈ ps.take k, bad q = false) (hp : ps[k]? = some p) (hv : bad p = false) :
    ∀ q ∈ ps.take (k + 1), bad q = false := by
  intro q hq
  rw [List.take_add_one, hp] at hq
  rcases List.mem_append.1 hq with g | g
  · exact h q g
  · have : q = p := by simpa using g
    rw [this]; exact hv

/-- What a call answers that makes a row, or panics. -/
def RowRes {α : Type} (L : Lay α) (e : TypeId) (r : Int × List α) (base : Nat) (w : World) (en : Ending) (w' : World) : Prop :=
  (r.1 = 0 → ∃ v, en = .returned v ∧ Own L e w' base v r.2) ∧ (r.1 ≠ 0 → en = .panicked [perr r.1]) ∧ Below base w w'
theorem RowRes.good {α : Type} {L : Lay α} {e : TypeId} {r : Int × List α} {base : Nat} {w w' : World} {v : Value} (h : r.1 = 0) (ho : Own L e w' base v r.2) (hb : Below base w w') : RowRes L e r base w (.returned v) w' := ⟨fun _ => ⟨v, rfl, ho⟩, fun g => absurd h g, hb⟩
theorem RowRes.bad {α : Type} {L : Lay α} {e : TypeId} {r : Int × List α} {base : Nat} {w w' : World} {c : Int} (h : r.1 = c) (hc : c ≠ 0) (hb : Below base w w') : RowRes L e r base w (.panicked [perr c]) w' := ⟨fun g => absurd (h.symm.trans g) hc, fun _ => by rw [h], hb⟩

/-- What comes of all parts. -/
def parsedG {α : Type} (bad : List UInt8 → Bool) (f : List UInt8 → α) (chk : List α → Int) (s : List UInt8) : Int × List α :=
  if s = [45] then (0, [])
  else if (partsOf s).any bad = true then (2, [])
  else if chk (((partsOf s).map f).take 9) ≠ 0 then (chk (((partsOf s).map f).take 9), [])
  else (0, ((partsOf s).map f).take 9)
theorem parsedG_none {α : Type} {bad : List UInt8 → Bool} {f : List UInt8 → α} {chk : List α → Int} {s : List UInt8} (h : (parsedG bad f chk s).1 ≠ 0) : (parsedG bad f chk s).2 = [] := by
  unfold parsedG at h ⊢
  split
  · rfl
  · rename_i h1
    rw [if_neg h1] at h
    split
    · rfl
    · rename_i h2
      rw [if_neg h2] at h
      split
      · rfl
      · rename_i h3; rw [if_neg h3] at h; exact absurd rfl h

end Go.Proofs.YtflllkpnkcmegaaGreatDoor

/- The reference's Split: a text's parts, between a byte. -/
namespace Go.Proofs.YtflllkpnkcmegaaGreatDoor
open Go.RowKit
set_option linter.unusedVariables false

/-- A text's parts between c. -/
def partsAt (c : UInt8) : List UInt8 → List (List UInt8)
  | [] => [[]]
  | b :: t => if b = c then [] :: partsAt c t else match partsAt c t with
      | [] => [[b]]
      | p :: ps => (b :: p) :: ps
theorem partsAt_ne (c : UInt8) (l : List UInt8) : partsAt c l ≠ [] := by
  cases l with
  | nil => simp [partsAt]
  | cons b t => unfold partsAt; split; simp; split <;> simp
/-- As texts. -/
def splitB (c : UInt8) (s : List UInt8) : List ByteArray := (partsAt c s).map bytes
theorem splitB_len (c : UInt8) : ∀ s : List UInt8, (splitB c s).length ≤ s.length + 1
  | [] => by simp [splitB, partsAt]
  | b :: t => by
    have ih := splitB_len c t
    unfold splitB at ih ⊢
    rw [partsAt]
    rw [List.length_map] at ih ⊢
    split
    · simp; omega
    · cases h : partsAt c t with
      | nil => simp
      | cons p ps => rw [h] at ih; simp at ih ⊢; omega
theorem partAt_len (c : UInt8) : ∀ (s : List UInt8) (p : List UInt8), p ∈ partsAt c s → p.length ≤ s.length
  | [], p, h => by
    have : p = [] := by simpa [partsAt] using h
    subst this; simp
  | b :: t, p, h => by
    rw [partsAt] at h
    split at h
    · rcases List.mem_cons.1 h with rfl | h
      · simp
      · have := partAt_len c t p h; simp; omega
    · cases hp : partsAt c t with
      | nil => exact absurd hp (partsAt_ne c t)
      | cons q qs =>
        rw [hp] at h
        rcases List.mem_cons.1 h with rfl | h
        · have := partAt_len c t q (by rw [hp]; simp); simp; omega
        · have := partAt_len c t p (by rw [hp]; simp [h]); simp; omega
end Go.Proofs.YtflllkpnkcmegaaGreatDoor

/- A text cut, its parts. -/
namespace Go.Proofs.YtflllkpnkcmegaaGreatDoor
open Go.RowKit
set_option linter.unusedVariables false

theorem index_one (c b : UInt8) (t : List UInt8) : Lib.index (b :: t) [c] = if b = c then 0 else if Lib.index t [c] == -1 then -1 else Lib.index t [c] + 1 := by
  rw [Lib.index]
  by_cases h : b = c
  · subst h; rw [if_pos rfl, if_pos (by simp [List.isPrefixOf])]
  · rw [if_neg h, if_neg (by simp [List.isPrefixOf]; exact fun e => h e.symm)]
theorem cut_nil (c : UInt8) : Lib.cut [] [c] = ([], [], false) := by unfold Lib.cut; simp [Lib.index]
theorem cut_cons (c b : UInt8) (t : List UInt8) : Lib.cut (b :: t) [c] = if b = c then ([], t, true) else (b :: (Lib.cut t [c]).1, (Lib.cut t [c]).2.1, (Lib.cut t [c]).2.2) := by
  have hge := Lib.index_ge t [c]
  unfold Lib.cut
  rw [index_one]
  by_cases h : b = c
  · subst h; simp
  · rw [if_neg h, if_neg h]
    by_cases h1 : Lib.index t [c] = -1
    · rw [h1]; simp
    · have h2 : 0 ≤ Lib.index t [c] := by omega
      obtain ⟨i, hi⟩ := Int.eq_ofNat_of_zero_le h2
      rw [hi]
      have e1 : ((i : Int) == -1) = false := beq_eq_false_iff_ne.2 (by omega)
      rw [e1]
      have e2 : (0 : Int) ≤ (i : Int) + 1 := by omega
      have e3 : ((i : Int) + 1).toNat = i + 1 := by omega
      simp [e2, e3]
theorem cut_none {c : UInt8} : ∀ {p : List UInt8}, c ∉ p → Lib.cut p [c] = (p, [], false)
  | [], _ => cut_nil c
  | b :: t, h => by
    rw [cut_cons, if_neg (by intro e; exact h (by simp [e])), cut_none (by intro e; exact h (by simp [e]))]
theorem cut_mid {c : UInt8} : ∀ {x : List UInt8} (y : List UInt8), c ∉ x → Lib.cut (x ++ c :: y) [c] = (x, y, true)
  | [], y, _ => by rw [List.nil_append, cut_cons, if_pos rfl]
  | b :: t, y, h => by
    rw [List.cons_append, cut_cons, if_neg (by intro e; exact h (by simp [e])), cut_mid y (by intro e; exact h (by simp [e]))]
theorem cut_parts (c : UInt8) : ∀ p : List UInt8, partsAt c p = if (Lib.cut p [c]).2.2 = true then (Lib.cut p [c]).1 :: partsAt c (Lib.cut p [c]).2.1 else [p]
  | [] => by rw [cut_nil]; rfl
  | b :: t => by
    rw [partsAt, cut_cons]
    by_cases h : b = c
    · rw [if_pos h, if_pos h]; rfl
    · rw [if_neg h, if_neg h, cut_parts c t]
      dsimp only
      by_cases h1 : (Lib.cut t [c]).2.2 = true
      · rw [if_pos h1, if_pos h1]
      · rw [if_neg h1, if_neg h1]
theorem index_byte_one (c : UInt8) : ∀ q : List UInt8, decide (0 ≤ Lib.indexByte q c) = decide (c ∈ q)
  | [] => by simp [Lib.indexByte]
  | b :: t => by
    have ih := index_byte_one c t
    have hge := Lib.indexByte_ge t c
    rw [Lib.indexByte]
    by_cases h : b = c
    · subst h; simp
    · have e1 : (b == c) = false := by simpa using h
      rw [e1]
      have hm : decide (c ∈ b :: t) = decide (c ∈ t) := by
        simp [List.mem_cons]; intro e; exact absurd e.symm h
      rw [hm, ← ih]
      by_cases h1 : Lib.indexByte t c = -1
      · rw [h1]; simp
      · have e2 : (Lib.indexByte t c == -1) = false := by simpa using h1
        rw [e2]
        have : 0 ≤ Lib.indexByte t c := by omega
        simp [this]; omega
end Go.Proofs.YtflllkpnkcmegaaGreatDoor

/- Joined parts are parted again. -/
namespace Go.Proofs.YtflllkpnkcmegaaGreatDoor
open Go.RowKit
set_option linter.unusedVariables false

theorem cut_back (c : UInt8) : ∀ p : List UInt8, (Lib.cut p [c]).2.2 = true → (Lib.cut p [c]).1 ++ c :: (Lib.cut p [c]).2.1 = p
  | [], h => by rw [cut_nil] at h; cases h
  | b :: t, h => by
    rw [cut_cons] at h ⊢
    by_cases hb : b = c
    · rw [if_pos hb] at h ⊢; subst hb; rfl
    · rw [if_neg hb] at h ⊢
      have ih := cut_back c t h
      show b :: ((Lib.cut t [c]).1 ++ c :: (Lib.cut t [c]).2.1) = b :: t
      rw [ih]
theorem parts_clean : ∀ {p : List UInt8}, (44 : UInt8) ∉ p → partsOf p = [p]
  | [], _ => rfl
  | b :: t, h => by
    rw [partsOf_cons, if_neg (by intro e; exact h (by simp [e])), parts_clean (p := t) (by intro e; exact h (by simp [e]))]
theorem parts_app : ∀ (x : List UInt8) (y : List UInt8), (44 : UInt8) ∉ x → partsOf (x ++ 44 :: y) = x :: partsOf y
  | [], y, _ => by rw [List.nil_append, partsOf_cons, if_pos rfl]
  | b :: t, y, h => by
    rw [List.cons_append, partsOf_cons, if_neg (by intro e; exact h (by simp [e])), parts_app t y (by intro e; exact h (by simp [e]))]
theorem parts_join : ∀ (ts : List (List UInt8)), ts ≠ [] → (∀ p ∈ ts, (44 : UInt8) ∉ p) → partsOf (Lib.join ts [44]) = ts
  | [], h, _ => absurd rfl h
  | [p], _, h => by rw [Lib.join_one]; exact parts_clean (h p (by simp))
  | p :: q :: t, _, h => by
    rw [join_cons2]
    have e : p ++ [44] ++ Lib.join (q :: t) [44] = p ++ 44 :: Lib.join (q :: t) [44] := by simp
    rw [e, parts_app _ _ (h p (by simp)), parts_join (q :: t) (by simp) (fun z hz => h z (by simp [hz]))]
theorem ok_not {b : UInt8} (h : okByte b = true) : b ≠ 58 ∧ b ≠ 33 ∧ b ≠ 44 ∧ b ≠ 45 := by
  rw [okByte_iff] at h
  refine ⟨?_, ?_, ?_, ?_⟩ <;> (rintro rfl; revert h; decide)
theorem name_bytes {x : ByteArray} (h : isName x = true) : ∀ b ∈ x.data.toList, okByte b = true := by
  unfold isName at h
  simp only [Bool.and_eq_true, decide_eq_true_eq] at h
  exact List.all_eq_true.1 h.2
theorem name_some {x : ByteArray} (h : isName x = true) : ∃ b t, x.data.toList = b :: t ∧ okByte b = true := by
  have hb := name_bytes h
  unfold isName at h
  simp only [Bool.and_eq_true, decide_eq_true_eq] at h
  cases hl : x.data.toList with
  | nil =>
    have : x.size = 0 := by rw [← ByteArray.size_data, ← Array.length_toList, hl]; rfl
    omega
  | cons b t => exact ⟨b, t, rfl, hb b (by rw [hl]; simp)⟩
theorem name_no {x : ByteArray} (h : isName x = true) : (58 : UInt8) ∉ x.data.toList ∧ (33 : UInt8) ∉ x.data.toList ∧ (44 : UInt8) ∉ x.data.toList := by
  have hb := name_bytes h
  exact ⟨fun e => (ok_not (hb _ e)).1 rfl, fun e => (ok_not (hb _ e)).2.1 rfl, fun e => (ok_not (hb _ e)).2.2.1 rfl⟩
theorem mid_data (x y : ByteArray) (c : UInt8) : (x ++ ⟨#[c]⟩ ++ y).data.toList = x.data.toList ++ c :: y.data.toList := by simp [ByteArray.data_append]
theorem told_parsed {α : Type} {bad : List UInt8 → Bool} {f : List UInt8 → α} {chk : List α → Int} {g : α → ByteArray} {l : List α} (hl : l.length ≤ 8) (hne : l ≠ []) (hc : chk l = 0)
    (hg : ∀ x ∈ l, (44 : UInt8) ∉ (g x).data.toList ∧ bad (g x).data.toList = false ∧ f (g x).data.toList = x) (hd : ∀ x ∈ l, (g x).data.toList ≠ [45]) :
    parsedG bad f chk (joinB (l.map g)).data.toList = (0, l) := by
  have e : (joinB (l.map g)).data.toList = Lib.join (l.map fun x => (g x).data.toList) [44] := by
    unfold joinB
    rw [List.map_map]; rfl
  have hp : partsOf (joinB (l.map g)).data.toList = l.map fun x => (g x).data.toList := by
    rw [e]
    refine parts_join _ (by simpa using hne) ?_
    intro p hp
    obtain ⟨x, hx, rfl⟩ := List.mem_map.1 hp
    exact (hg x hx).1
  have hm : ((partsOf (joinB (l.map g)).data.toList).map f).take 9 = l := by
    rw [hp, List.map_map]
    have : l.map (f ∘ fun x => (g x).data.toList) = l.map id := List.map_congr_left fun x hx => (hg x hx).2.2
    rw [this, List.map_id, List.take_of_length_le (by omega)]
  unfold parsedG
  rw [if_neg, if_neg, hm, if_neg (by rw [hc]; decide)]
  · rw [hp]
    simp only [List.any_map, List.any_eq_true, not_exists, not_and]
    intro x hx
    rw [Function.comp, (hg x hx).2.1]; decide
  · intro h45
    rw [h45] at hp
    have h1 : l.map (fun x => (g x).data.toList) = [[45]] := by rw [← hp]; rfl
    cases l with
    | nil => exact absurd rfl hne
    | cons x t =>
      have : (g x).data.toList = [45] := by simpa using (List.cons.inj h1).1
      exact hd x (by simp) this

end Go.Proofs.YtflllkpnkcmegaaGreatDoor

/- The reference's joined. -/
namespace Go.Proofs.YtflllkpnkcmegaaGreatDoor
open Go.RowKit
set_option linter.unusedVariables false

end Go.Proofs.YtflllkpnkcmegaaGreatDoor

/- append onto a row of the call's own, from any slice, whatever the elements. -/
namespace Go.Proofs.YtflllkpnkcmegaaGreatDoor
open Go.RowKit
set_option linter.unusedVariables false

/-- A slice's type: its elements, how many cells, how many bytes each. -/
def Kind (t e : TypeId) (size bytes : Nat) : Prop := ∃ i z, Tryz.prog.underlying t = some (.slice e) ∧ Tryz.prog.info? e = some i ∧ i.zero = some z ∧ i.size = size ∧ i.bytes = bytes ∧ z.cells.size = size ∧ 0 < size
/-- What is appended: the first cells behind an address, or nothing at all. -/
def AppSrc (w : World) (y : Value) (m : Nat) (news : List Value) : Prop :=
  (∃ ad c, y = .slice (some ad) m c ∧ ∀ j u, news[j]? = some u → w.cell? (ad.add j) = some u) ∨ (∃ c, y = .slice none 0 c ∧ m = 0)
theorem run_app_own {t e : TypeId} {size bytes : Nat} (K : Kind t e size bytes) (w : World) (B : Nat) (hB : B ≤ w.heap.size) (g n cap : Nat) (xs : List Value) (hown : w.ownsRow B e size (.slice (some ⟨g, 0, none⟩) n cap) n xs) (y : Value) (m : Nat) (news : List Value) (hl : news.length = m * size) (hone : ∀ u ∈ news, u.oneCell' = true) (hy : AppSrc w y m news)
    (h63 : n + m ≤ maxLen) (hb : ((n + m) + (n + m) / 4 + 192) * bytes ≤ 281474976710656) (ty : TypeId) :
    ∃ g' cap' w', (Builtin.append_ #[t, t] ty #[.slice (some ⟨g, 0, none⟩) n cap, y]).run Tryz.prog w = .ok (.slice (some ⟨g', 0, none⟩) (n + m) cap') w' ∧ w'.ownsRow B e size (.slice (some ⟨g', 0, none⟩) (n + m) cap') (n + m) (xs ++ news) ∧ Below B w w' ∧ w.grownBy w' (some g) := by
  obtain ⟨i, z, ht, hi, hz, h1, h8, hzs, hsz⟩ := K
  have hbg : B ≤ g := by
    rcases hown.2 with ⟨h0, _⟩ | ⟨g2, cap2, cur, h0, hbg, _⟩
    · cases h0
    · cases h0; exact hbg
  rcases hy with ⟨ad, c, rfl, hc⟩ | ⟨c, rfl, rfl⟩
  · obtain ⟨v', w', hr, ho, hg, hnil⟩ := run_append_own_wide w B t ty e i z size bytes ht hi hz h1 h8 hzs hsz _ n xs hown ad m c news hl hc hone h63 hb hB
    have hb := (Below.refl B w).grown hg hB (by intro k hk; cases hk; exact hbg)
    rcases ho.2 with ⟨h0, _⟩ | ⟨g2, cap2, cur, rfl, _⟩
    · have := (hnil.1 h0).1
      cases this
    · exact ⟨g2, cap2, w', hr, ho, hb, hg⟩
  · have : news = [] := List.eq_nil_of_length_eq_zero (by rw [hl, Nat.zero_mul])
    subst this
    rcases hown.2 with ⟨h0, _⟩ | ⟨g2, cap2, cur, h0, _, hg, hnc, _⟩
    · cases h0
    · cases h0
      have hr := run_append_room_src w t t ty e i ht hi g 0 n cap (.slice none 0 c) 0 [] (Src.ofNil w ht c) (by omega) (by intro j hj; simp at hj) (by intro j hj; simp at hj)
      exact ⟨_, _, _, hr, by simpa [World.setCells] using hown, Below.refl B w, World.grownBy.refl _ _⟩
/-- At the operation. -/
theorem wp_app_own {t e : TypeId} {size bytes : Nat} (Kd : Kind t e size bytes) {o : Oper} {a : Act} {K : Act → World → Prop} {Q : Exit → Act → World → Prop} (s x : Operand) (w : World)
    (ho : o.op = .call { callee := .builtin .append, args := #[s, x], argTypes := #[t, t] })
    (B : Nat) (hB : B ≤ w.heap.size) (g n cap : Nat) (xs : List Value) (hs : a.eval s = .slice (some ⟨g, 0, none⟩) n cap) (hown : w.ownsRow B e size (.slice (some ⟨g, 0, none⟩) n cap) n xs) (y : Value) (m : Nat) (news : List Value) (hx : a.eval x = y) (hl : news.length = m * size) (hone : ∀ u ∈ news, u.oneCell' = true) (hy : AppSrc w y m news)
    (h63 : n + m ≤ maxLen) (hb : ((n + m) + (n + m) / 4 + 192) * bytes ≤ 281474976710656)
    (h : ∀ g' cap' w', w'.ownsRow B e size (.slice (some ⟨g', 0, none⟩) (n + m) cap') (n + m) (xs ++ news) → Below B w w' → w.grownBy w' (some g) → K (a.put o.dst (.slice (some ⟨g', 0, none⟩) (n + m) cap')) w') : o.wp Tryz.prog a w K Q := by
  obtain ⟨g', cap', w', hr, h2, h3, h4⟩ := run_app_own Kd w B hB g n cap xs hown y m news hl hone hy h63 hb o.type
  unfold Oper.wp execOp
  simp only [ho, resolve, invoke, builtin, Sem.run_bind, Sem.run_pure, Result.andThen_ok, List.map_toArray, List.map_cons, List.map_nil, hs, hx, hr]
  exact h g' cap' w' h2 h3 h4
theorem wpList_app_own {t e : TypeId} {size bytes : Nat} (Kd : Kind t e size bytes) {ops : Array Oper} {rest : List Oper} {o : Oper} {a : Act} {Q : Exit → Act → World → Prop} (w : World) (hgd : o.guard = none) (s x : Operand)
    (ho : o.op = .call { callee := .builtin .append, args := #[s, x], argTypes := #[t, t] })
    (B : Nat) (hB : B ≤ w.heap.size) (g n cap : Nat) (xs : List Value) (hs : a.eval s = .slice (some ⟨g, 0, none⟩) n cap) (hown : w.ownsRow B e size (.slice (some ⟨g, 0, none⟩) n cap) n xs) (y : Value) (m : Nat) (news : List Value) (hx : a.eval x = y) (hl : news.length = m * size) (hone : ∀ u ∈ news, u.oneCell' = true) (hy : AppSrc w y m news)
    (h63 : n + m ≤ maxLen) (hb : ((n + m) + (n + m) / 4 + 192) * bytes ≤ 281474976710656)
    (h : ∀ g' cap' w', w'.ownsRow B e size (.slice (some ⟨g', 0, none⟩) (n + m) cap') (n + m) (xs ++ news) → Below B w w' → w.grownBy w' (some g) → wpList Tryz.prog ops Q rest (a.put o.dst (.slice (some ⟨g', 0, none⟩) (n + m) cap')) w') : wpList Tryz.prog ops Q (o :: rest) a w :=
  wpList_plain hgd fun _ hK => wp_app_own Kd s x w ho B hB g n cap xs hs hown y m news hx hl hone hy h63 hb fun g' cap' w' h2 h3 h4 => hK _ _ (h g' cap' w' h2 h3 h4)
/-- At a step of a region that draws. -/
theorem step_app_own {t e : TypeId} {size bytes : Nat} (Kd : Kind t e size bytes) {ops : Array Oper} {o : Oper} {a : Act} {K : Act → World → Prop} {Q : Exit → Act → World → Prop} {E : Prop} (w : World) (hgd : o.guard = none) (s x : Operand)
    (ho : o.op = .call { callee := .builtin .append, args := #[s, x], argTypes := #[t, t] })
    (B : Nat) (hB : B ≤ w.heap.size) (g n cap : Nat) (xs : List Value) (hs : a.eval s = .slice (some ⟨g, 0, none⟩) n cap) (hown : w.ownsRow B e size (.slice (some ⟨g, 0, none⟩) n cap) n xs) (y : Value) (m : Nat) (news : List Value) (hx : a.eval x = y) (hl : news.length = m * size) (hone : ∀ u ∈ news, u.oneCell' = true) (hy : AppSrc w y m news)
    (h63 : n + m ≤ maxLen) (hb : ((n + m) + (n + m) / 4 + 192) * bytes ≤ 281474976710656)
    (h : ∀ g' cap' w', w'.ownsRow B e size (.slice (some ⟨g', 0, none⟩) (n + m) cap') (n + m) (xs ++ news) → Below B w w' → w.grownBy w' (some g) → K (a.put o.dst (.slice (some ⟨g', 0, none⟩) (n + m) cap')) w') :
    if Region.wanted o (yielded ops a.tmps) = true then Oper.wp Tryz.prog o a w K Q else E := by
  have hw : Region.wanted o (yielded ops a.tmps) = true := by simp [Region.wanted, hgd]
  rw [if_pos hw]
  exact wp_app_own Kd s x w ho B hB g n cap xs hs hown y m news hx hl hone hy h63 hb h
/-- An empty row as it is laid. -/
theorem own_empty (w : World) (B size : Nat) (e : TypeId) (hB : B ≤ w.heap.size) : (w.alloc (.cells #[] e)).ownsRow B e size (.slice (some ⟨w.heap.size, 0, none⟩) 0 0) 0 [] :=
  ⟨by simp, .inr ⟨w.heap.size, 0, #[], rfl, hB, World.alloc_heap_new w _, by omega, by unfold maxLen; omega, by simp, by simp⟩⟩
theorem own_empty_at (w : World) (B size : Nat) (e : TypeId) (hB : B ≤ w.heap.size) (g : Nat) (hg : g = w.heap.size) : (w.alloc (.cells #[] e)).ownsRow B e size (.slice (some ⟨g, 0, none⟩) 0 0) 0 [] := by
  subst hg
  exact own_empty w B size e hB
/-- A row's cells, where each comes from. -/
theorem rowCells_from {α : Type} (L : Lay α) : ∀ (l : List α) (j : Nat) (u : Value), (rowCells L l)[j]? = some u → ∃ i x k, l[i]? = some x ∧ (L.cs x)[k]? = some u ∧ j = i * L.m + k
  | [], j, u, h => by simp [rowCells] at h
  | y :: t, j, u, h => by
    unfold rowCells at h
    rw [List.flatMap_cons] at h
    by_cases hj : j < L.m
    · rw [List.getElem?_append_left (by rw [L.len]; exact hj)] at h
      exact ⟨0, y, j, rfl, h, by omega⟩
    · rw [List.getElem?_append_right (by rw [L.len]; omega), L.len] at h
      obtain ⟨i, x, k, h1, h2, h3⟩ := rowCells_from L t (j - L.m) u h
      exact ⟨i + 1, x, k, by simpa using h1, h2, by rw [Nat.add_mul]; omega⟩
/-- A slice that came in, as what is appended. -/
theorem RowAt.src {α : Type} {L : Lay α} {w : World} {a : Option Addr} {len cap : Nat} {l : List α} (h : RowAt L w a len l) : AppSrc w (.slice a len cap) len (rowCells L l) := by
  obtain ⟨h0, h1, h2, h3⟩ := h
  rcases h3 with h3 | ⟨b, off, rfl, hb, hc⟩
  · have hl : l = [] := List.eq_nil_of_length_eq_zero (by omega)
    subst hl
    subst h3
    cases a with
    | none => exact .inr ⟨cap, rfl, rfl⟩
    | some ad => exact .inl ⟨ad, cap, rfl, fun j u hu => by simp [rowCells] at hu⟩
  · refine .inl ⟨_, cap, rfl, fun j u hu => ?_⟩
    obtain ⟨i, x, k, hi, hk, rfl⟩ := rowCells_from L l j u hu
    have e : (⟨b, off, none⟩ : Addr).add (i * L.m + k) = ⟨b, off + i * L.m + k, none⟩ := by
      unfold Addr.add
      split <;> simp_all [Nat.add_assoc]
    rw [e]; exact hc i x k u hi hk

end Go.Proofs.YtflllkpnkcmegaaGreatDoor

/- catch.Sound, at rows: what was made, or a panic with its error. -/
namespace Go.Proofs.YtflllkpnkcmegaaGreatDoor
open Go.RowKit
set_option linter.unusedVariables false

theorem soundT_ok (v : Value) (w : World) : Calls Tryz.prog 125 #[v, .int .i64 0] w fun e w' => e = .returned v ∧ w = w' := by
  go_enter Tryz.func125, Tryz.ntmps125
  go_wp2
  go_ret
  exact ⟨rfl, rfl⟩
theorem soundT_bad (v : Value) (x : Int) (w : World) (h : x ≠ 0) : Calls Tryz.prog 125 #[v, .int .i64 x] w fun e w' => e = .panicked [perr x] ∧ w = w' := by
  have h3 : (x != 0) = true := by simpa using h
  clear h
  go_enter Tryz.func125, Tryz.ntmps125
  go_wp2
  exact ⟨rfl, rfl, rfl⟩
end Go.Proofs.YtflllkpnkcmegaaGreatDoor

/- A row that came in; what the world's shape gives a walk. -/
namespace Go.Proofs.YtflllkpnkcmegaaGreatDoor
open Go.ChangeShapes Go.WideShapes Go.ChangeAt Go.RowKit Go.Deep
set_option linter.unusedVariables false

theorem cellsS : Tryz.prog.cellsOf 9 = 1 := by kernel_rfl
/-- A row that came in. -/
theorem reads_of_trod {α : Type} (L : Lay α) {t e : TypeId} (ht : Tryz.prog.underlying t = some (.slice e)) (hc : Tryz.prog.cellsOf e = L.m) {H : Type} {enc : TypeId × Value → H} {w : World} {base fuel : Nat} {sp : Nat → Bool} {held : Bool} {v : Value} {x : DataW H × List MemPlace}
    (el : ∀ (m : Nat) (cs : List Value) (x : DataW H × List MemPlace), DataW.trod enc Tryz.prog w base sp held m e cs = some x → ∃ a, cs = L.cs a ∧ L.fine a)
    (h : DataW.trod enc Tryz.prog w base sp held fuel t [v] = some x) : ∃ l, Reads L w v l := by
  rcases open_slice ht h with ⟨hcs, -⟩ | ⟨a, len, cap, m, n, D, Pl, hcs, hb, hl, hm, hmm, hx, hi⟩
  · cases hcs; exact ⟨[], Reads.nil w⟩
  · cases hcs
    have hlm : len ≤ m := by rw [hmm]; split <;> omega
    have key : ∀ k, k ≤ len → ∃ l : List α, l.length = k ∧ (∀ z ∈ l, L.fine z) ∧ ∀ i z j u, l[i]? = some z → (L.cs z)[j]? = some u → w.cell? ((a.add (i * L.m)).add j) = some u := by
      intro k
      induction k with
      | zero => exact fun _ => ⟨[], rfl, (fun z hz => by cases hz), (fun i z j u hi _ => by simp at hi)⟩
      | succ k ih =>
        intro hk
        obtain ⟨l, e, hfine, hall⟩ := ih (by omega)
        obtain ⟨cs', hcc, ht'⟩ := hi k (by omega)
        obtain ⟨z0, rfl, hz0⟩ := el _ _ _ ht'
        rw [hc] at hcc
        obtain ⟨-, -, hat⟩ := World.cells?_some hcc
        refine ⟨l ++ [z0], by simp [e], fun z hz => ?_, fun i z j u hi' hj => ?_⟩
        · rcases List.mem_append.1 hz with g | g
          · exact hfine z g
          · have : z = z0 := by simpa using g
            rw [this]; exact hz0
        · by_cases e2 : i = k
          · subst e2
            have : z0 = z := by simpa [e] using hi'
            subst this
            have hjl : j < L.m := by have := (List.getElem?_eq_some_iff.1 hj).1; rw [L.len] at this; exact this
            rw [hat j hjl]; exact hj
          · have hik : i < l.length := by have := (List.getElem?_eq_some_iff.1 hi').1; simp at this; omega
            rw [List.getElem?_append_left hik] at hi'
            exact hall i z j u hi' hj
    obtain ⟨l, e, hfine, hall⟩ := key len (Nat.le_refl _)
    subst e
    refine ⟨l, _, cap, rfl, hl, hm, rfl, Nat.le_trans hl hm, hfine, ?_⟩
    by_cases h0 : l.length = 0
    · exact .inl h0
    · obtain ⟨b, off, spot⟩ := a
      have hg : l[0]? = some (l[0]'(by omega)) := List.getElem?_eq_getElem (by omega)
      have hlz := L.len (l[0]'(by omega))
      have hcz : (L.cs (l[0]'(by omega)))[0]? = some ((L.cs (l[0]'(by omega)))[0]'(by rw [hlz]; exact L.pos)) := List.getElem?_eq_getElem (by rw [hlz]; exact L.pos)
      have hcell0 := hall 0 _ 0 _ hg hcz
      have hspot : spot = none := by simpa [Addr.add] using World.cell?_spot hcell0
      subst hspot
      have hcell : ∀ i z j u, l[i]? = some z → (L.cs z)[j]? = some u → w.cell? ⟨b, off + i * L.m + j, none⟩ = some u := fun i z j u hi' hj => by
        have c := hall i z j u hi' hj
        have e : ((⟨b, off, none⟩ : Addr).add (i * L.m)).add j = ⟨b, off + i * L.m + j, none⟩ := by
          unfold Addr.add
          split <;> split <;> simp_all
        rw [e] at c; exact c
      exact .inr ⟨b, off, rfl, World.block_lt_of_cell? _ _ (hcell 0 _ 0 _ hg hcz), hcell⟩
/-- What the world's shape gives a walk. -/
theorem env_of {W : World} (hS : W.ShapedOpen Tryz.prog) : Env W :=
  ⟨cell_of_shapedOpen_int (zero := #[.int .i64 0]) (t := 3) hS (of_decide_eq_true (by kernel_rfl)) (by kernel_rfl) rfl (by kernel_rfl) (by kernel_rfl) Tryz.underlying3⟩

end Go.Proofs.YtflllkpnkcmegaaGreatDoor

/- A text's words: so many, or none. -/
namespace Go.Proofs.YtflllkpnkcmegaaGreatDoor
open Go.RowKit
set_option linter.unusedVariables false

theorem cut_def (c : UInt8) (s : List UInt8) : ((Lib.cut s [c]).2.2 = false → Lib.index s [c] = -1) ∧ ((Lib.cut s [c]).2.2 = true → ¬ Lib.index s [c] = -1 ∧ s.take ((Lib.index s [c]).toNat + 0) = (Lib.cut s [c]).1 ∧ s.drop ((Lib.index s [c]).toNat + [c].length) = (Lib.cut s [c]).2.1) := by
  have hge := Lib.index_ge s [c]
  unfold Lib.cut
  by_cases h : 0 ≤ Lib.index s [c]
  · rw [if_pos h]
    exact ⟨(fun e => by cases e), fun _ => ⟨by omega, rfl, rfl⟩⟩
  · rw [if_neg h]
    exact ⟨(fun _ => by omega), (fun e => by cases e)⟩
theorem parts_cons (c : UInt8) (s : List UInt8) (h : (Lib.cut s [c]).2.2 = true) : partsAt c s = (Lib.cut s [c]).1 :: partsAt c (Lib.cut s [c]).2.1 := by rw [cut_parts, if_pos h]
theorem parts_lone' (c : UInt8) (s : List UInt8) (h : (Lib.cut s [c]).2.2 = false) : partsAt c s = [s] := by rw [cut_parts, if_neg (by rw [h]; decide)]
theorem parts_pos (c : UInt8) (s : List UInt8) : 1 ≤ (partsAt c s).length := List.length_pos_iff.2 (partsAt_ne c s)
/-- Cut at the first k at most: all parts, or k + 1. -/
theorem splitK_parts (c : UInt8) : ∀ (k : Nat) (s : List UInt8), ((partsAt c s).length ≤ k + 1 → Lib.splitK [c] 0 k s = partsAt c s) ∧ (k + 1 < (partsAt c s).length → (Lib.splitK [c] 0 k s).length = k + 1)
  | 0, s => by
    rw [Lib.splitK]
    refine ⟨fun h => ?_, fun _ => rfl⟩
    cases hf : (Lib.cut s [c]).2.2 with
    | false => rw [parts_lone' c s hf]
    | true =>
      rw [parts_cons c s hf] at h
      have := parts_pos c (Lib.cut s [c]).2.1
      rw [List.length_cons] at h
      omega
  | k + 1, s => by
    rw [Lib.splitK]
    obtain ⟨h1, h2⟩ := cut_def c s
    cases hf : (Lib.cut s [c]).2.2 with
    | false =>
      rw [if_pos (beq_iff_eq.2 (h1 hf)), parts_lone' c s hf]
      exact ⟨fun _ => rfl, fun h => absurd h (by simp)⟩
    | true =>
      obtain ⟨e0, e1, e2⟩ := h2 hf
      rw [if_neg (fun e => e0 (beq_iff_eq.1 e)), e1, e2, parts_cons c s hf]
      obtain ⟨i1, i2⟩ := splitK_parts c k (Lib.cut s [c]).2.1
      exact ⟨fun h => by rw [i1 (by simpa using h)], fun h => by simp; exact i2 (by simpa using h)⟩
theorem parts_le (c : UInt8) (s : List UInt8) : (partsAt c s).length ≤ s.length + 1 := by
  have := splitB_len c s
  unfold splitB at this
  rwa [List.length_map] at this
/-- So many words are so many parts. -/
theorem split_k (k : Nat) (s : List UInt8) : ((partsAt 32 s).length = k → Lib.splitB ⟨#[32]⟩ 0 (min (k + 1) ((bytes s).size + 1) - 1) (bytes s) = (partsAt 32 s).map bytes) ∧
    ((partsAt 32 s).length ≠ k → (Lib.splitB ⟨#[32]⟩ 0 (min (k + 1) ((bytes s).size + 1) - 1) (bytes s)).length ≠ k) := by
  have hd := Lib.splitB_data ⟨#[32]⟩ 0 (min (k + 1) ((bytes s).size + 1) - 1) (bytes s)
  have hb : (bytes s).data.toList = s := by simp [bytes]
  rw [hb] at hd
  have hp := parts_le 32 s
  have hsz : (bytes s).size = s.length := bytes_size s
  rw [hsz] at hd ⊢
  obtain ⟨i1, i2⟩ := splitK_parts 32 (min (k + 1) (s.length + 1) - 1) s
  refine ⟨fun h => ?_, fun h h5 => ?_⟩
  · have e := i1 (by omega)
    have hd' : (Lib.splitB ⟨#[32]⟩ 0 (min (k + 1) (s.length + 1) - 1) (bytes s)).map (·.data.toList) = partsAt 32 s := hd.trans e
    rw [← hd', List.map_map]
    have : (bytes ∘ fun x : ByteArray => x.data.toList) = id := by
      funext x; cases x; simp [bytes]
    rw [this, List.map_id]
  · have hl := congrArg List.length hd
    rw [List.length_map, h5] at hl
    by_cases hle : (partsAt 32 s).length ≤ min (k + 1) (s.length + 1) - 1 + 1
    · have e := i1 hle
      have : (Lib.splitK [32] 0 (min (k + 1) (s.length + 1) - 1) s).length = k := hl.symm
      rw [e] at this
      exact h this
    · have := i2 (by omega)
      have h3 : (Lib.splitK [32] 0 (min (k + 1) (s.length + 1) - 1) s).length = k := hl.symm
      omega
/-- What Words does. -/
def Split (k : Nat) (s : List UInt8) (w : World) (e : Ending) (w' : World) : Prop :=
  ((partsAt 32 s).length = k → ∃ g cap, e = .returned (.slice (some ⟨g, 0, none⟩) k cap) ∧ w.heap.size ≤ g ∧ ∀ j p, (partsAt 32 s)[j]? = some p → w'.cell? ⟨g, j, none⟩ = some (.string (bytes p))) ∧
  ((partsAt 32 s).length ≠ k → e = .panicked [perr 2]) ∧ Kept w w'

end Go.Proofs.YtflllkpnkcmegaaGreatDoor

/- Words joined by blanks. -/
namespace Go.Proofs.YtflllkpnkcmegaaGreatDoor
open Go.RowKit
set_option linter.unusedVariables false

theorem pjoin_of {b n : Nat} {t : ByteArray} {w : World} (h : Calls Tryz.prog 130 #[.slice (some ⟨b, 0, none⟩) n n, .string ⟨#[32]⟩] w fun e w' => e = .returned (.string t) ∧ Kept w w') :
    Calls Tryz.prog 77 #[.slice (some ⟨b, 0, none⟩) n n] w fun e w' => e = .returned (.string t) ∧ Kept w w' := by
  have H := Lib.hid h
  clear h
  go_enter Tryz.func77, Tryz.ntmps77
  go_wp2_with fail
  refine H.out.mono ?_
  rintro e w1 ⟨rfl, k⟩
  have K := Lib.hid k
  clear k
  go_wp2
  go_ret
  exact ⟨rfl, K.out⟩

end Go.Proofs.YtflllkpnkcmegaaGreatDoor

/- A struct of many cells: laid, read, put anew. -/
namespace Go.Proofs.YtflllkpnkcmegaaGreatDoor
open Go.RowKit
set_option linter.unusedVariables false

/-- Block q's cells are these, none of them frozen. -/
structure CellsN (q : Nat) (vs : List Value) (W : World) : Prop where
  at_ : ∀ i v, vs[i]? = some v → W.cell? ⟨q, i, none⟩ = some v
  free : ∀ i, W.frozen? ⟨q, i, none⟩ = false
theorem CellsN.block {q : Nat} {vs : List Value} {W W' : World} (h : CellsN q vs W) (e : W'.heap[q]? = W.heap[q]?) : CellsN q vs W' :=
  ⟨fun i v hv => (World.cell?_of_block (a := ⟨q, i, none⟩) e).trans (h.at_ i v hv), fun i => (World.frozen?_of_block (a := ⟨q, i, none⟩) e).trans (h.free i)⟩
theorem CellsN.lt {q : Nat} {v : Value} {vs : List Value} {W : World} (h : CellsN q (v :: vs) W) : q < W.heap.size := World.block_lt_of_cell? _ _ (h.at_ 0 v rfl)
theorem CellsN.kept {q : Nat} {v : Value} {vs : List Value} {W W' : World} (h : CellsN q (v :: vs) W) (k : Kept W W') : CellsN q (v :: vs) W' := h.block (k.block q h.lt)
theorem CellsN.other {q p j : Nat} {u : Value} {vs : List Value} {W : World} (h : CellsN q vs W) (hp : q ≠ p) : CellsN q vs (W.setCell ⟨p, j, none⟩ u) := h.block (Below.heap_setCell W ⟨p, j, none⟩ u q hp)
/-- A new block of cells. -/
theorem freshN (w : World) (v : Value) (vs : List Value) (T : TypeId) (W : World) (k : Kept (w.alloc (.cells (v :: vs).toArray T)) W) : CellsN w.heap.size (v :: vs) W := by
  have hh := w.alloc_heap_new (.cells (v :: vs).toArray T)
  have h : CellsN w.heap.size (v :: vs) (w.alloc (.cells (v :: vs).toArray T)) := ⟨fun i u hu => by rw [Lib.cell_of_heap hh]; simpa using hu, fun i => by
    unfold World.frozen?
    rw [show (w.alloc (.cells (v :: vs).toArray T)).heap[(⟨w.heap.size, i, none⟩ : Addr).block]? = some (.cells (v :: vs).toArray T) from hh]
    simp⟩
  exact h.kept k
/-- One cell put anew. -/
theorem CellsN.set {q j : Nat} {u : Value} {vs : List Value} {W : World} (h : CellsN q vs W) (hj : j < vs.length) : CellsN q (vs.set j u) (W.setCell ⟨q, j, none⟩ u) := by
  refine ⟨fun i v hv => ?_, fun i => by rw [World.frozen?_setCell]; exact h.free i⟩
  by_cases e : j = i
  · subst e
    have hv' : v = u := by rw [List.getElem?_set_self hj] at hv; exact (Option.some.inj hv).symm
    subst hv'
    exact World.cell?_setCell_same _ _ _ (h.at_ j _ (List.getElem?_eq_getElem hj))
  · rw [List.getElem?_set_ne e] at hv
    rw [World.cell?_setCell_other _ _ _ _ (by simp)]
    exact h.at_ i v hv
theorem setCells_size (q : Nat) : ∀ (vs : List Value) (o : Nat) (W : World), (W.setCells q o vs).heap.size = W.heap.size
  | [], _, _ => rfl
  | v :: r, o, W => by rw [World.setCells, setCells_size q r]; simp [World.setCell]
theorem setCells_block (q : Nat) : ∀ (vs : List Value) (o : Nat) (W : World) (b : Nat), b ≠ q → (W.setCells q o vs).heap[b]? = W.heap[b]?
  | [], _, _, _, _ => rfl
  | v :: r, o, W, b, h => by rw [World.setCells, setCells_block q r _ _ b h]; exact Below.heap_setCell W ⟨q, o, none⟩ v b h
theorem setCells_below (q : Nat) : ∀ (vs : List Value) (o : Nat) (W : World) (B : Nat) (w : World), B ≤ q → Below B w W → Below B w (W.setCells q o vs)
  | [], _, _, _, _, _, k => k
  | v :: r, o, W, B, w, h, k => by rw [World.setCells]; exact setCells_below q r _ _ B w h (k.setCell (p := ⟨q, o, none⟩) h _)
/-- A struct put into block q: what is known of that world. -/
structure PutN (q : Nat) (vs : List Value) (W W' : World) : Prop where
  cells : CellsN q vs W'
  size : W'.heap.size = W.heap.size
  far : ∀ b, b ≠ q → W'.heap[b]? = W.heap[b]?
  below : ∀ B w, B ≤ q → Below B w W → Below B w W'
theorem putN {q : Nat} {us vs : List Value} {W : World} (h : CellsN q us W) (hl : us.length = vs.length) : PutN q vs W (W.setCells q 0 vs) := by
  refine ⟨⟨fun i v hv => ?_, fun i => by rw [World.frozen?_setCells]; exact h.free i⟩, setCells_size q vs 0 W, fun b hb => setCells_block q vs 0 W b hb, fun B w hB k => setCells_below q vs 0 W B w hB k⟩
  have hi : i < vs.length := (List.getElem?_eq_some_iff.1 hv).1
  have := World.cell?_setCells_in q vs 0 W (fun j hj => by rw [Nat.zero_add, h.at_ j _ (List.getElem?_eq_getElem (by omega))]; rfl) i hi
  rw [Nat.zero_add] at this
  rw [this]
  obtain ⟨_, e⟩ := List.getElem?_eq_some_iff.1 hv
  rw [e]

end Go.Proofs.YtflllkpnkcmegaaGreatDoor
