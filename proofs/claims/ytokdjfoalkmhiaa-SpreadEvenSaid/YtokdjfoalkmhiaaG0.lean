/- What serves all packages,and package by package the contracts of the functions that the law calls. -/
import Derived.Test.YtokdjfoalkmhiaaShort
import Derived.WalkLawsBesides
import Derived.WalkSpells
import Derived.Deep.AppendLies
import Derived.Shelf.Small.Bits
import Derived.Shelf.Sort.Plain
import Derived.Shelf.Slices.Turned
import Derived.Shelf.Slices.Cells
import Derived.Shelf.Slices.In.SortNone
import Derived.Lib.Split
import Derived.Lib.Join
import Derived.Lib.ParseIntB
import Derived.RangeFuncNested
import Derived.RangeFuncBound
import Derived.Shelf.SlSortCmp.QuietGrown
import Derived.Lib.AppendIntMem
import Derived.Lib.AtoiErrMem
import Derived.Shelf.Strings.BuilderX
import Derived.Lib.ItoaLen
import Derived.Lib.SmallJoins
import Derived.StillTailTactics
import Derived.Test.YtokdjfoalkmhiaaRows
import Derived.Stop.LaidErr
import Derived.Stop.Joined
import Derived.MakeChecks
import Derived.Handy
import Derived.Deep.CutRange
import Derived.Deep.DeepAppendWide
import Derived.Lib.AppendZerosOnto
import Derived.Lib.Overlaps
set_option linter.unusedVariables false
set_option maxRecDepth 100000
set_option maxHeartbeats 25600000
namespace Go.Proofs.Ytokdjfoalkmhiaa
open Go.RowKit
def Kept (w w':World):Prop:=Below w.heap.size w w'
theorem Kept.refl (w:World):Kept w w:=Below.refl _ _
theorem Kept.trans {a b c:World} (h:Kept a b) (k:Kept b c):Kept a c:=Below.trans h (Below.mono k h.size)
theorem Kept.drewN (w:World) (n:Nat):Kept w (w.drewN n):=below_drewN (Below.refl _ _) n
theorem Kept.drew (w:World):Kept w w.drew:=Kept.drewN w 1
theorem kept_alloc (w:World) (o:Obj):Kept w (w.alloc o):=(Below.refl _ _).alloc (Nat.le_refl _) _
theorem kept_two (w:World) (o o':Obj):Kept w ((w.alloc o).alloc o'):=(kept_alloc w o).trans (kept_alloc _ o')
theorem cell_later {w w':World} {a:Addr} {u:Value} (k:Kept w w') (h:w.cell? a=some u):w'.cell? a=some u :=
 (Below.cell k (World.block_lt_of_cell? _ _ h)).trans h
def ltS (s t:ByteArray):Bool:=Op.bytesLess s.toList t.toList
def eqS (s t:ByteArray):Bool:=s.toList==t.toList
def leS (s t:ByteArray):Bool:=ltS s t||eqS s t
theorem eqS_iff {s t:ByteArray}:eqS s t=true↔s=t:=by
 unfold eqS;rw[Lib.toList_data,Lib.toList_data,beq_iff_eq];constructor
 · intro h
   cases s;cases t
   simp only[ByteArray.mk.injEq];exact Array.ext' h
 · rintro rfl;rfl
structure Lay (α:Type) where
 m:Nat
 cs:α→List Value
 fine:α→Prop
 len:∀x,(cs x).length=m
 one:∀x u,u ∈ cs x→u.oneCell'=true
 pos:0<m
theorem one_s (x:ByteArray) (u:Value) (h:u ∈ [Value.string x]):u.oneCell'=true:=by
 have e:u=Value.string x:=by simpa using h
 rw[e];rfl
theorem one_ss (x y:ByteArray) (u:Value) (h:u ∈ [Value.string x,Value.string y]):u.oneCell'=true:=by
 have e:u=Value.string x∨u=Value.string y:=by simpa using h
 rcases e with e | e<;>rw[e]<;>rfl
theorem one_iss (o:Int) (x y:ByteArray) (u:Value) (h:u ∈ [Value.int .i64 o,Value.string x,Value.string y]):u.oneCell'=true:=by
 have e:u=Value.int .i64 o∨u=Value.string x∨u=Value.string y:=by simpa using h
 rcases e with e | e | e<;>rw[e]<;>rfl
def StrLay:Lay ByteArray:={ m:=1,cs:=fun s=>[.string s],fine:=fun s=>s.size≤maxLen,len:=fun _=>rfl,one:=one_s,pos:=by decide }
def PairLay:Lay (ByteArray×ByteArray):={ m:=2,cs:=fun x=>[.string x.1,.string x.2],fine:=fun x=>x.1.size≤maxLen∧x.2.size≤maxLen,len:=fun _=>rfl,one:=fun x=>one_ss x.1 x.2,pos:=by decide }
def TermLay:Lay (Int×ByteArray×ByteArray):={ m:=3,cs:=fun x=>[.int .i64 x.1,.string x.2.1,.string x.2.2],fine:=fun x=>(-9223372036854775808≤x.1∧x.1≤9223372036854775807)∧x.2.1.size≤maxLen∧x.2.2.size≤maxLen,len:=fun _=>rfl,one:=fun x=>one_iss x.1 x.2.1 x.2.2,pos:=by decide }
def RowAt {α:Type} (L:Lay α) (w:World) (a:Option Addr) (len:Nat) (l:List α):Prop :=
 l.length=len∧len≤maxLen∧(∀x ∈ l,L.fine x) ∧
  (len=0∨∃b off,a=some ⟨b,off,none⟩∧b<w.heap.size ∧
    ∀i x j u,l[i]?=some x→(L.cs x)[j]?=some u→w.cell? ⟨b,off+i*L.m+j,none⟩=some u)
theorem RowAt.kept {α:Type} {L:Lay α} {w w':World} {a:Option Addr} {len:Nat} {l:List α} (h:RowAt L w a len l) (k:Kept w w'):RowAt L w' a len l:=by
 obtain⟨h0,h1,h2,h3⟩:=h;refine⟨h0,h1,h2,h3.imp id ?_⟩;rintro ⟨b,off,ha,hb,hc⟩;exact⟨b,off,ha,Nat.lt_of_lt_of_le hb k.size,fun i x j u hi hj=>(Below.cell k (p:=⟨b,off+i*L.m+j,none⟩) hb).trans (hc i x j u hi hj)⟩
theorem RowAt.nil {α:Type} {L:Lay α} (w:World) (a:Option Addr):RowAt L w a 0 []:=⟨rfl,by decide,fun i hi=>absurd hi (by simp),.inl rfl⟩
theorem RowAt.form {α:Type} {L:Lay α} {w:World} {a:Option Addr} {len:Nat} {l:List α} (h:RowAt L w a len l):len=0∨∃b off,a=some ⟨b,off,none⟩:=by
 obtain⟨_,_,_,h3⟩:=h;exact h3.imp id fun ⟨b,off,e,_⟩=>⟨b,off,e⟩
theorem RowAt.cells {α:Type} {L:Lay α} {w:World} {b off len:Nat} {l:List α} {k:Nat} (h:RowAt L w (some ⟨b,off,none⟩) len l) (hk:k<len) :
 ∃x,l[k]?=some x∧l.drop k=x::l.drop (k+1)∧b<w.heap.size∧L.fine x∧∀(j:Nat) u,(L.cs x)[j]?=some u→w.cell? ⟨b,off+k*L.m+j,none⟩=some u:=by
 obtain⟨h0,_,hf,h3⟩:=h;have hkl:k<l.length:=by omega
 rcases h3 with h3 | ⟨b',off',e,hb,hc⟩
 · omega
 · injection e with e;injection e with e1 e2 e3;subst e1;subst e2;have he:l[k]?=some l[k]:=List.getElem?_eq_getElem hkl;exact⟨l[k],he,List.drop_eq_getElem_cons hkl,hb,hf _ (List.getElem_mem hkl),fun j u hu=>hc k _ j u he hu⟩
theorem RowAt.str {w:World} {b off len:Nat} {l:List ByteArray} {k:Nat} (h:RowAt StrLay w (some ⟨b,off,none⟩) len l) (hk:k<len) :
 ∃x:ByteArray,l[k]?=some x∧l.drop k=x::l.drop (k+1)∧b<w.heap.size∧x.size≤maxLen∧w.cell? ⟨b,off+k,none⟩=some (.string x):=by
 obtain⟨x,h1,h2,h3,h4,h5⟩:=h.cells hk;exact⟨x,h1,h2,h3,h4,by have:=h5 0 _ rfl;simpa [StrLay] using this⟩
theorem RowAt.pair {w:World} {b off len:Nat} {l:List (ByteArray×ByteArray)} {k:Nat} (h:RowAt PairLay w (some ⟨b,off,none⟩) len l) (hk:k<len) :
 ∃x y:ByteArray,l[k]?=some (x,y)∧l.drop k=(x,y)::l.drop (k+1)∧b<w.heap.size∧x.size≤maxLen∧y.size≤maxLen∧w.cell? ⟨b,off+k*2,none⟩=some (.string x)∧w.cell? ⟨b,off+k*2+1,none⟩=some (.string y):=by
 obtain⟨⟨x,y⟩,h1,h2,h3,h4,h5⟩:=h.cells hk;exact⟨x,y,h1,h2,h3,h4.1,h4.2,h5 0 _ rfl,h5 1 _ rfl⟩
def rowCells {α:Type} (L:Lay α) (l:List α):List Value:=l.flatMap L.cs
theorem rowCells_append {α:Type} (L:Lay α) (l m:List α):rowCells L (l++m)=rowCells L l++rowCells L m:=by unfold rowCells;rw[List.flatMap_append]
theorem rowCells_at {α:Type} (L:Lay α):∀(l:List α) (i:Nat) (x:α) (j:Nat) (u:Value),l[i]?=some x→(L.cs x)[j]?=some u→(rowCells L l)[i*L.m+j]?=some u
 | [],i,x,j,u,h,_=>by simp at h
 | y::t,0,x,j,u,h,hu=>by
  have:y=x:=by simpa using h
  subst this;unfold rowCells;rw[List.flatMap_cons,Nat.zero_mul,Nat.zero_add,List.getElem?_append_left (List.getElem?_eq_some_iff.1 hu).1];exact hu
 | y::t,i+1,x,j,u,h,hu=>by
  have ih:=rowCells_at L t i x j u (by simpa using h) hu;unfold rowCells at ih ⊢;rw[List.flatMap_cons,List.getElem?_append_right (by rw[L.len,Nat.add_mul];omega),L.len];have:(i+1)*L.m+j-L.m=i*L.m+j:=by rw[Nat.add_mul];omega
  rw[this];exact ih
def Own {α:Type} (L:Lay α) (e:TypeId) (w:World) (base:Nat) (v:Value) (l:List α):Prop:=w.ownsRow base e L.m v l.length (rowCells L l)∧∀x ∈ l,L.fine x
theorem Own.nil {α:Type} {L:Lay α} (e:TypeId) (w:World) (base:Nat):Own L e w base (.slice none 0 0) []:=⟨World.ownsRow_nil w base e L.m,fun x h=>by cases h⟩
theorem Own.at_ {α:Type} {L:Lay α} {e:TypeId} {w:World} {base:Nat} {v:Value} {l:List α} (h:Own L e w base v l) :
 ∃a cap,v=.slice a l.length cap∧l.length≤cap∧cap≤maxLen∧RowAt L w a l.length l:=by
 obtain⟨h,hf⟩:=h;have h':=h;obtain⟨_,h1⟩:=h;rcases h1 with ⟨rfl,h0⟩ | ⟨g,cap,cur,rfl,hbg,hg,hn,hm,hs,ht⟩
 · have:l=[]:=List.eq_nil_of_length_eq_zero h0;subst this;exact⟨none,0,rfl,Nat.le_refl _,by decide,RowAt.nil w none⟩
 · refine⟨_,cap,rfl,hn,hm,rfl,Nat.le_trans hn hm,hf,.inr ⟨g,0,rfl,?_,fun i x j u hi hj=>?_⟩⟩
   · rcases Nat.lt_or_ge g w.heap.size with hlt | hge
     · exact hlt
     · rw[Array.getElem?_eq_none hge] at hg;cases hg
   · have c1:=h'.cells (g:=g) rfl _ _ (rowCells_at L l i x j u hi hj);rw[←c1];congr 1
     unfold Addr.add;split<;>simp_all
theorem Own.kept {α:Type} {L:Lay α} {e:TypeId} {w w':World} {base:Nat} {v:Value} {l:List α} (h:Own L e w base v l) (k:Kept w w'):Own L e w' base v l:=by
 obtain⟨⟨h0,h1⟩,hf⟩:=h;refine⟨⟨h0,h1.imp id ?_⟩,hf⟩;rintro ⟨g,cap,cur,rfl,hbg,hg,hn,hm,hs,ht⟩;refine⟨g,cap,cur,rfl,hbg,?_,hn,hm,hs,ht⟩;have hlt:g<w.heap.size:=by
  rcases Nat.lt_or_ge g w.heap.size with hlt | hge
  · exact hlt
  · rw[Array.getElem?_eq_none hge] at hg;cases hg
 exact(k.block g hlt).trans hg
theorem Own.base_le {α:Type} {L:Lay α} {e:TypeId} {w:World} {B B':Nat} {v:Value} {l:List α} (h:Own L e w B' v l) (hb:B≤B'):Own L e w B v l:=by
 obtain⟨⟨h0,h1⟩,hf⟩:=h;refine⟨⟨h0,h1.imp id ?_⟩,hf⟩;rintro ⟨g,cap,cur,rfl,hbg,rest⟩;exact⟨g,cap,cur,rfl,Nat.le_trans hb hbg,rest⟩
theorem Own.put {α:Type} {L:Lay α} {e:TypeId} {w:World} {B D:Nat} {v:Value} {l:List α} (h:Own L e w B v l) (hD:D<B) (o:Obj):Own L e (w.putObj D o) B v l:=by
 obtain⟨⟨h0,h1⟩,hf⟩:=h;refine⟨⟨h0,h1.imp id ?_⟩,hf⟩;rintro ⟨g,cap,cur,rfl,hbg,hg,rest⟩;exact⟨g,cap,cur,rfl,hbg,(World.putObj_heap_other (by omega)).trans hg,rest⟩
def Reads {α:Type} (L:Lay α) (w:World) (v:Value) (l:List α):Prop:=∃a cap,v=.slice a l.length cap∧l.length≤cap∧cap≤maxLen∧RowAt L w a l.length l
theorem Reads.kept {α:Type} {L:Lay α} {w w':World} {v:Value} {l:List α} (h:Reads L w v l) (k:Kept w w'):Reads L w' v l:=by
 obtain⟨a,cap,e,h1,h2,h3⟩:=h;exact⟨a,cap,e,h1,h2,h3.kept k⟩
theorem Own.reads {α:Type} {L:Lay α} {e:TypeId} {w:World} {base:Nat} {v:Value} {l:List α} (h:Own L e w base v l):Reads L w v l:=by
 obtain⟨a,cap,e,h1,h2,h3⟩:=h.at_;exact⟨a,cap,e,h1,h2,h3⟩
abbrev perr (c:Int):PanicEntry:={ v:=.iface 56 (.int .i64 c),recovered:=false }
def okByte (c:UInt8):Bool:=(decide (97≤(c.toNat:Int))&&decide ((c.toNat:Int)≤122))||(decide (48≤(c.toNat:Int))&&decide ((c.toNat:Int)≤57))
def isName (s:ByteArray):Bool:=decide (1≤s.size)&&decide (s.size≤12)&&s.data.toList.all okByte
theorem ret_bool {a b:Bool} (h:a=b):Ending.returned (.bool a)=.returned (.bool b):=by rw[h]
end Go.Proofs.Ytokdjfoalkmhiaa
namespace Go.Proofs
open Go.Shelf
def Try.lays190_ren:Go.Shelf.Ren:=⟨fun | 190=>21 | 125=>30 | 258=>29 | 128=>43 | 129=>44 | 302=>34 | 303=>35 | 304=>36 | 305=>37 | 306=>38 | 307=>39 | 308=>40 | 309=>41 | 310=>42 | 333=>45 | 329=>46 | 330=>47 | 334=>48 | 335=>49 | 336=>50 | 344=>51 | n=>n,fun | 31=>47 | 9=>9 | 3=>3 | 46=>79 | 0=>0 | 51=>92 | 53=>94 | 4=>4 | 183=>85 | 182=>84 | 131=>44 | 5=>5 | 218=>95 | 222=>99 | 228=>102 | 229=>103 | n=>n,fun | n=>n⟩
theorem Try.lays190:Go.Proofs.Lays.n190 Try.prog Try.lays190_ren:={
 mixed:=by kernel_rfl
 f125:=Try.func30.trans (congrArg some (by kernel_rfl))
 f128:=Try.func43.trans (congrArg some (by kernel_rfl))
 f129:=Try.func44.trans (congrArg some (by kernel_rfl))
 f190:=Try.func21.trans (congrArg some (by kernel_rfl))
 f258:=Try.func29.trans (congrArg some (by kernel_rfl))
 f302:=Try.func34.trans (congrArg some (by kernel_rfl))
 f303:=Try.func35.trans (congrArg some (by kernel_rfl))
 f304:=Try.func36.trans (congrArg some (by kernel_rfl))
 f305:=Try.func37.trans (congrArg some (by kernel_rfl))
 f306:=Try.func38.trans (congrArg some (by kernel_rfl))
 f307:=Try.func39.trans (congrArg some (by kernel_rfl))
 f308:=Try.func40.trans (congrArg some (by kernel_rfl))
 f309:=Try.func41.trans (congrArg some (by kernel_rfl))
 f310:=Try.func42.trans (congrArg some (by kernel_rfl))
 f329:=Try.func46.trans (congrArg some (by kernel_rfl))
 f330:=Try.func47.trans (congrArg some (by kernel_rfl))
 f333:=Try.func45.trans (congrArg some (by kernel_rfl))
 f334:=Try.func48.trans (congrArg some (by kernel_rfl))
 f335:=Try.func49.trans (congrArg some (by kernel_rfl))
 f336:=Try.func50.trans (congrArg some (by kernel_rfl))
 f344:=Try.func51.trans (congrArg some (by kernel_rfl))
 t0:=Try.underlying0
 a0:=Try.isAgg0
 z0:=Try.sizeOf0
 v0:=Try.zeroValue0
 t3:=Try.underlying3
 a3:=Try.isAgg3
 z3:=Try.sizeOf3
 v3:=Try.zeroValue3
 t4:=Try.underlying4
 a4:=Try.isAgg4
 z4:=Try.sizeOf4
 v4:=Try.zeroValue4
 t5:=Try.underlying5
 a5:=Try.isAgg5
 z5:=Try.sizeOf5
 v5:=Try.zeroValue5
 t9:=Try.underlying9
 a9:=Try.isAgg9
 z9:=Try.sizeOf9
 v9:=Try.zeroValue9
 t31:=Try.underlying47
 a31:=Try.isAgg47
 z31:=Try.sizeOf47
 v31:=Try.zeroValue47
 t46:=Try.underlying79
 a46:=Try.isAgg79
 z46:=Try.sizeOf79
 v46:=Try.zeroValue79
 t51:=Try.underlying92
 a51:=Try.isAgg92
 z51:=Try.sizeOf92
 v51:=Try.zeroValue92
 t53:=Try.underlying94
 a53:=Try.isAgg94
 z53:=Try.sizeOf94
 v53:=Try.zeroValue94
 t131:=Try.underlying44
 a131:=Try.isAgg44
 z131:=Try.sizeOf44
 v131:=Try.zeroValue44
 t182:=Try.underlying84
 a182:=Try.isAgg84
 z182:=Try.sizeOf84
 v182:=Try.zeroValue84
 t183:=Try.underlying85
 a183:=Try.isAgg85
 z183:=Try.sizeOf85
 v183:=Try.zeroValue85
 t218:=Try.underlying95
 a218:=Try.isAgg95
 z218:=Try.sizeOf95
 v218:=Try.zeroValue95
 t222:=Try.underlying99
 a222:=Try.isAgg99
 z222:=Try.sizeOf99
 v222:=Try.zeroValue99
 t228:=Try.underlying102
 a228:=Try.isAgg102
 z228:=Try.sizeOf102
 v228:=Try.zeroValue102
 t229:=Try.underlying103
 a229:=Try.isAgg103
 z229:=Try.sizeOf103
 v229:=Try.zeroValue103 }
open Go.Sort Go.RowKit in
theorem Try.slices_Sort_string (blk off cap:Nat) (ss:List (List UInt8)) (w:World) (hH:Holds encStr w blk off ss.toArray) (hblk:blk<w.heap.size) (hsz:ss.length<4611686018427387904) :
 Calls Try.prog 21 #[.slice (some ⟨blk,off,none⟩) ss.length cap] w fun e w' =>
  e=.returned (.tuple #[])∧∃n os,w'=grow (putRow encStr (Sort.ahead w n) blk off (ss.mergeSort fun x y=>decide (x≤y)).toArray) os:=Any.slices_Sort_string Try.lays190 blk off cap ss w hH hblk hsz
def Try.lays114_ren:Go.Shelf.Ren:=⟨fun | 114=>25 | n=>n,fun | 28=>71 | 3=>3 | 4=>4 | 9=>9 | 20=>20 | 0=>0 | n=>n,fun | n=>n⟩
theorem Try.lays114:Go.Proofs.Lays.n114 Try.prog Try.lays114_ren:={
 mixed:=by kernel_rfl
 f114:=Try.func25.trans (congrArg some (by kernel_rfl))
 t0:=Try.underlying0
 a0:=Try.isAgg0
 z0:=Try.sizeOf0
 v0:=Try.zeroValue0
 t3:=Try.underlying3
 a3:=Try.isAgg3
 z3:=Try.sizeOf3
 v3:=Try.zeroValue3
 t4:=Try.underlying4
 a4:=Try.isAgg4
 z4:=Try.sizeOf4
 v4:=Try.zeroValue4
 t9:=Try.underlying9
 a9:=Try.isAgg9
 z9:=Try.sizeOf9
 v9:=Try.zeroValue9
 t20:=Try.underlying20
 a20:=Try.isAgg20
 z20:=Try.sizeOf20
 v20:=Try.zeroValue20
 t28:=Try.underlying71
 a28:=Try.isAgg71
 z28:=Try.sizeOf71
 v28:=Try.zeroValue71 }
open Go.Lib in
theorem Try.slices_Min_int (b off n c:Nat) (zs:List Int) (w:World) (hn:0<n) (hz:n≤zs.length) (hbig:n≤9223372036854775807) (hc:∀j,j<zs.length→w.cell? ⟨b,off+j,none⟩=some (.int .i64 (zs.getD j 0))) :
 Calls Try.prog 25 #[.slice (some ⟨b,off,none⟩) n c] w fun e w'=>e=.returned (.int .i64 (Lib.minOf (zs.take n)))∧w'=w:=Any.slices_Min_int Try.lays114 b off n c zs w hn hz hbig hc
def Try.lays194_ren:Go.Shelf.Ren:=⟨fun | 194=>22 | n=>n,fun | 31=>47 | 9=>9 | 3=>3 | 4=>4 | 0=>0 | n=>n,fun | n=>n⟩
theorem Try.lays194:Go.Proofs.Lays.n194 Try.prog Try.lays194_ren:={
 mixed:=by kernel_rfl
 f194:=Try.func22.trans (congrArg some (by kernel_rfl))
 t0:=Try.underlying0
 a0:=Try.isAgg0
 z0:=Try.sizeOf0
 v0:=Try.zeroValue0
 t3:=Try.underlying3
 a3:=Try.isAgg3
 z3:=Try.sizeOf3
 v3:=Try.zeroValue3
 t4:=Try.underlying4
 a4:=Try.isAgg4
 z4:=Try.sizeOf4
 v4:=Try.zeroValue4
 t9:=Try.underlying9
 a9:=Try.isAgg9
 z9:=Try.sizeOf9
 v9:=Try.zeroValue9
 t31:=Try.underlying47
 a31:=Try.isAgg47
 z31:=Try.sizeOf47
 v31:=Try.zeroValue47 }
open Go.RowKit Go.Lib Go.Sort in
theorem Try.slices_Compact_string (blk off cap:Nat) (zs:List (List UInt8)) (w:World) (hH:Holds encStr w blk off zs.toArray) (hsz:zs.length≤9223372036854775807) (hcap:zs.length≤cap) :
 Calls Try.prog 22 #[.slice (some ⟨blk,off,none⟩) zs.length cap] w fun e w'=>e=.returned (.slice (some ⟨blk,off,none⟩) (Lib.compact zs).length cap)∧∃q,w'=putRow encStr (Sort.ahead w q) blk off (Lib.compact zs++List.replicate (zs.length-(Lib.compact zs).length) []).toArray:=Any.slices_Compact_string Try.lays194 blk off cap zs w hH hsz hcap
open Go.RowKit Go.Lib Go.Sort in
theorem Try.slices_Compact_string_empty (a:Option Addr) (cap:Nat) (w:World) :
 Calls Try.prog 22 #[.slice a 0 cap] w fun e w'=>e=.returned (.slice a 0 cap)∧w'=w:=Any.slices_Compact_string_empty Try.lays194 a cap w
open Go.RowKit Go.Sort in
theorem Try.slices_Sort_string_none (p:Option Addr) (cap:Nat) (w:World) :
 Calls Try.prog 21 #[.slice p 0 cap] w fun e w'=>e=.returned (.tuple #[])∧w'=w:=Any.slices_Sort_string_none Try.lays190 p cap w
end Go.Proofs
namespace Go.Proofs.Ytokdjfoalkmhiaa
open Go.RowKit
theorem drop_end {α:Type} {l:List α} {k:Nat} (h:¬k<l.length):l.drop k=[]:=List.drop_of_length_le (by omega)
theorem Own.snoc {α:Type} {L:Lay α} {e:TypeId} {w:World} {base n:Nat} {v:Value} {l:List α} {x:α} (h:w.ownsRow base e L.m v n (rowCells L l++L.cs x)) (hn:l.length+1=n) (hf:∀z ∈ l,L.fine z) (hx:L.fine x):Own L e w base v (l++[x]):=by
 refine⟨?_,fun z hz=>?_⟩
 · rw[List.length_append,rowCells_append];show w.ownsRow base e L.m v (l.length+1) (rowCells L l++rowCells L [x]);rw[hn];have e:rowCells L [x]=L.cs x:=by unfold rowCells;simp
   rw[e];exact h
 · rcases List.mem_append.1 hz with g | g
   · exact hf z g
   · have:z=x:=by simpa using g
     rw[this];exact hx
def Say (v:Value) (w:World) (e:Ending) (w':World):Prop:=e=.returned v∧Kept w w'
theorem Reads.nil {α:Type} {L:Lay α} (w:World):Reads L w (.slice none 0 0) []:=⟨none,0,rfl,Nat.le_refl _,by decide,RowAt.nil w none⟩
theorem Reads.fine {α:Type} {L:Lay α} {v:Value} {l:List α} {w:World} (h:Reads L w v l):∀x ∈ l,L.fine x:=by
 obtain⟨a,cap,rfl,h1,h2,h3⟩:=h;exact h3.2.2.1
theorem RowAt.part {α:Type} {L:Lay α} {w:World} {b off len:Nat} {l:List α} (h:RowAt L w (some ⟨b,off,none⟩) len l) (i n:Nat) (hi:i+n≤len) :
 RowAt L w (some ⟨b,off+i*L.m,none⟩) n ((l.drop i).take n):=by
 obtain⟨h0,h1,h2,h3⟩:=h;refine⟨by rw[List.length_take,List.length_drop];omega,by omega,fun x hx=>h2 x (List.mem_of_mem_drop (List.mem_of_mem_take hx)),?_⟩;rcases h3 with h3 | ⟨b',off',e,hb,hc⟩
 · exact .inl (by omega)
 · injection e with e;injection e with e1 e2 e3;subst e1;subst e2;refine .inr ⟨b,_,rfl,hb,fun k x j u hk hj=>?_⟩;have hkn:k<n:=by have:=(List.getElem?_eq_some_iff.1 hk).1;rw[List.length_take] at this;omega
   have hk':l[i+k]?=some x:=by
    rw[List.getElem?_take,if_pos hkn,List.getElem?_drop] at hk;exact hk
   have:=hc (i+k) x j u hk' hj;rw[show off+i*L.m+k*L.m+j=off+(i+k)*L.m+j by rw[Nat.add_mul];omega];exact this
abbrev PL:=List (ByteArray×ByteArray)
abbrev TL:=List (Int×ByteArray×ByteArray)
def behindB (prev:Option ByteArray) (s:ByteArray):Bool:=match prev with | none=>false | some p=>leS s p
def getS:PL→ByteArray→Option ByteArray
 | [],_=>none
 | x::t,n=>if eqS x.1 n=true then some x.2 else getS t n
def getT (s:PL) (n:ByteArray):ByteArray:=(getS s n).getD ByteArray.empty
def hasS (s:PL) (n:ByteArray):Bool:=(getS s n).isSome
theorem getS_cons (x y:ByteArray) (t:PL) (n:ByteArray):getS ((x,y)::t) n=if eqS x n=true then some y else getS t n:=rfl
theorem ret_get {s:PL} {n:ByteArray} {o:Option ByteArray} (h:getS s n=o):Ending.returned (.tuple #[.string (o.getD ByteArray.empty),.bool o.isSome])=.returned (.tuple #[.string (getT s n),.bool (hasS s n)]):=by
 unfold getT hasS;rw[h]
theorem getS_size {s:PL} {n v:ByteArray} (hf:∀x ∈ s,PairLay.fine x) (h:getS s n=some v):v.size≤maxLen:=by
 induction s with
 | nil=>cases h
 | cons x t ih =>
  rw[getS] at h;split at h
  · injection h with h;subst h;exact(hf x (by simp)).2
  · exact ih (fun y hy=>hf y (by simp[hy])) h
theorem get_any (a:Option Addr) (len cap:Nat) (l:PL) (n:ByteArray) (w:World) (hr:RowAt PairLay w a len l) :
 Calls Try.prog 20 #[.slice a len cap,.string n] w fun e w'=>e=.returned (.tuple #[.string (getT l n),.bool (hasS l n)])∧Kept w w':=by
 have hl:=hr.1;have hm:=hr.2.1;unfold maxLen at hm;rcases hr.form with h0 | ⟨b,off,rfl⟩
 · subst h0;have HE:=lH (show getS l n=none by rw[List.eq_nil_of_length_eq_zero hl];rfl);clear hr hl;go_enter Try.func20,Try.ntmps20;go_wp2;refine wp_loop_rounds 1 ?_;rw[rounds_succ];go_wp2;go_ret2
   exact⟨ret_get HE.out,Kept.refl _⟩
 · have HR:=lH hr;have HL:=lH hl;clear hr hl;go_enter Try.func20,Try.ntmps20;go_wp2;go_loopw [10] (fun i wr=>∃k:Nat,k≤len∧i=.int .i64 k∧getS (l.drop k) n=getS l n∧Kept w wr) (fun i _=>len-(intOf i).toNat)
   case atStart=>exact⟨0,Nat.zero_le _,rfl,rfl,Kept.refl _⟩
   case round =>
    obtain⟨k,hk,rfl,hrest,hK⟩:=hrel;by_cases hlt:k<len
    · obtain⟨x,y,hx,hd,hb,hz,hz2,c1,c2⟩:=(HR.out.kept hK).pair hlt;have HK:=lH hK;have HT:=lH (hrest.symm.trans ((congrArg (fun z=>getS z n) hd).trans (getS_cons _ _ _ _)));clear hK hrest hx hd;by_cases e:eqS x n=true
      · have E:=lH e;have e':(x.toList==n.toList)=true:=e;clear e;go_wp2;go_ret2
        exact⟨ret_get (HT.out.trans (if_pos E.out)),HK.out.trans (kept_alloc _ _)⟩
      · have E:=lH e;have e':(x.toList==n.toList)=false:=by unfold eqS at e;simpa using e
        clear e;go_wp2;go_roundw
        case rel=>exact⟨k+1,by omega,by go_num,(HT.out.trans (if_neg E.out)).symm,HK.out.trans (kept_alloc _ _)⟩
        case measure=>simp[intOf];omega
    · have HK:=lH hK;have HS:=lH (hrest.symm.trans (congrArg (fun z=>getS z n) (drop_end (by rw[HL.out];exact hlt))));clear hK hrest;go_wp2;go_ret2
      exact⟨ret_get (HS.out.trans rfl),HK.out⟩
abbrev NT:=ByteArray×ByteArray×Bool
abbrev NL:=List NT
theorem one_ssb (x y:ByteArray) (b:Bool) (u:Value) (h:u ∈ [Value.string x,Value.string y,Value.bool b]):u.oneCell'=true:=by
 have e:u=Value.string x∨u=Value.string y∨u=Value.bool b:=by simpa using h
 rcases e with e | e | e<;>rw[e]<;>rfl
def TaLay:Lay NT:={ m:=3,cs:=fun x=>[.string x.1,.string x.2.1,.bool x.2.2],fine:=fun x=>x.1.size≤maxLen∧x.2.1.size≤maxLen,len:=fun _=>rfl,one:=fun x=>one_ssb x.1 x.2.1 x.2.2,pos:=by decide }
def isNo (s:ByteArray):Bool:=eqS s ByteArray.empty
theorem no_iff {s:ByteArray}:isNo s=(s.toList==([]:List UInt8)):=by
 unfold isNo eqS;rw[show ByteArray.empty.toList=([]:List UInt8) from by rw[Lib.toList_data];rfl]
open Go.RowKit Go.Shelf
def bytes (l:List UInt8):ByteArray:=⟨l.toArray⟩
theorem bytes_size (p:List UInt8):(bytes p).size=p.length:=by simp[bytes,ByteArray.size]
theorem bytes_data (s:ByteArray):bytes s.data.toList=s:=by apply Go.WideShapes.bytes_inj;simp[bytes]
theorem kept_cell {w w':World} (h:Kept w w') {a:Addr} (ha:w.heap.size≤a.block) (v:Value):Kept w (w'.setCell a v):=Below.setCell h ha v
attribute [local go_sem] Oper.semAt_some
structure St (b2 D:Nat) (W W':World):Prop where
 os:W'.os=W.os
 tape:W'.tape=W.tape
 output:W'.output=W.output
 size:W.heap.size≤W'.heap.size
 block:∀b,b≠b2→b≠D→b≠D+1→W'.heap[b]?=W.heap[b]?
theorem St.setCell {b2 D:Nat} (W:World) (v:Value):St b2 D W (W.setCell ⟨b2,0,none⟩ v) :=
 ⟨rfl,rfl,rfl,by show W.heap.size≤(W.heap.modify _ _).size;rw[Array.size_modify];exact Nat.le_refl _,fun b h _ _=>Below.heap_setCell W ⟨b2,0,none⟩ v b h⟩
theorem St.drewN {b2 D:Nat} (W:World) (n:Nat):St b2 D W (W.drewN n):=⟨rfl,rfl,rfl,Nat.le_refl _,fun _ _ _ _=>rfl⟩
theorem St.put {b2 D:Nat} (W:World) (o:Obj):St b2 D W (W.putObj (D+1) o):=⟨rfl,rfl,rfl,by simp,fun b _ _ h=>World.putObj_heap_other h⟩
def KeptAt (b1 b2 b3 D:Nat) (W W':World):Prop:=∀b,b=b1∨b=b2∨b=b3∨b=D∨b=D+1→W'.heap[b]?=W.heap[b]?
theorem KeptAt.trans {b1 b2 b3 D:Nat} {A B C:World} (h:KeptAt b1 b2 b3 D A B) (k:KeptAt b1 b2 b3 D B C):KeptAt b1 b2 b3 D A C:=fun b hb=>(k b hb).trans (h b hb)
theorem KeptAt.drewN {b1 b2 b3 D:Nat} (W:World) (n:Nat):KeptAt b1 b2 b3 D W (W.drewN n):=fun _ _=>rfl
end Go.Proofs.Ytokdjfoalkmhiaa
namespace Go.Proofs.Ytokdjfoalkmhiaa
open Go.RowKit Go.Shelf
attribute [local go_sem] Oper.semAt_some
theorem Own.row {α:Type} {L:Lay α} {e:TypeId} {w:World} {B n:Nat} {v:Value} {l:List α} (h:Own L e w B v l) (hn:l.length=n):w.ownsRow B e L.m v n (rowCells L l):=hn▸h.1
def RowRes {α:Type} (L:Lay α) (e:TypeId) (r:Int×List α) (base:Nat) (w:World) (en:Ending) (w':World):Prop :=
 (r.1=0→∃v,en=.returned v∧Own L e w' base v r.2)∧(r.1≠0→en=.panicked [perr r.1])∧Below base w w'
theorem RowRes.good {α:Type} {L:Lay α} {e:TypeId} {r:Int×List α} {base:Nat} {w w':World} {v:Value} (h:r.1=0) (ho:Own L e w' base v r.2) (hb:Below base w w'):RowRes L e r base w (.returned v) w':=⟨fun _=>⟨v,rfl,ho⟩,fun g=>absurd h g,hb⟩
theorem RowRes.bad {α:Type} {L:Lay α} {e:TypeId} {r:Int×List α} {base:Nat} {w w':World} {c:Int} (h:r.1=c) (hc:c≠0) (hb:Below base w w'):RowRes L e r base w (.panicked [perr c]) w':=⟨fun g=>absurd (h.symm.trans g) hc,fun _=>by rw[h],hb⟩
end Go.Proofs.Ytokdjfoalkmhiaa
namespace Go.Proofs.Ytokdjfoalkmhiaa
open Go.RowKit Go.Shelf
attribute [local go_sem] Oper.semAt_some
end Go.Proofs.Ytokdjfoalkmhiaa
namespace Go.Proofs.Ytokdjfoalkmhiaa
open Go.RowKit Go.Shelf
attribute [local go_sem] Oper.semAt_some
end Go.Proofs.Ytokdjfoalkmhiaa
namespace Go.Proofs.Ytokdjfoalkmhiaa
open Go.RowKit
theorem getR {v:Value} {l:PL} {n x:ByteArray} {b:Bool} {w:World} (h:Reads PairLay w v l) (hx:getT l n=x) (hb:hasS l n=b) :
 Calls Try.prog 20 #[v,.string n] w (Say (.tuple #[.string x,.bool b]) w):=by
 obtain⟨a,cap,rfl,_,_,hr⟩:=h;exact(get_any a _ cap l n w hr).mono fun e w' ⟨he,k⟩=>⟨by rw[he,hx,hb],k⟩
open Go.RowKit Go.Sort
def Grw (w w':World):Prop:=∃q os,w'=grow (w.drewN q) os
theorem Grw.refl (w:World):Grw w w:=⟨0,#[],by rw[grow_empty];rfl⟩
theorem Grw.grown {w W:World} (h:Grw w W) (n:Nat) (os:Array Obj):Grw w (grow (W.drewN n) os):=by
 obtain⟨q,os0,rfl⟩:=h;exact⟨q+n,os0++os,by show grow (grow ((w.drewN q).drewN n) os0) os=_;rw[grow_grow,World.drewN_drewN]⟩
theorem Grw.trans {a b c:World} (h:Grw a b) (k:Grw b c):Grw a c:=by
 obtain⟨q,os,rfl⟩:=k;exact h.grown q os
theorem Grw.alloc (w:World) (o:Obj):Grw w (w.alloc o):=⟨0,#[o],alloc_eq_grow _ _⟩
theorem Grw.drewN (w:World) (n:Nat):Grw w (w.drewN n):=⟨n,#[],by rw[grow_empty]⟩
theorem kept_grow (w:World) (n:Nat) (os:Array Obj):Kept w (grow (w.drewN n) os):=Go.Lib.below_grow w.heap.size w (Nat.le_refl _) n os
theorem Grw.kept {w w':World} (h:Grw w w'):Kept w w':=by
 obtain⟨q,os,rfl⟩:=h;exact kept_grow w q os
def TriAt (w:World) (c:Nat) (t:NT):Prop:=w.cell? ⟨c,0,none⟩=some (.string t.1)∧w.cell? ⟨c,1,none⟩=some (.string t.2.1)∧w.cell? ⟨c,2,none⟩=some (.bool t.2.2)
theorem TriAt.kept {w w':World} {c:Nat} {t:NT} (h:TriAt w c t) (k:Kept w w'):TriAt w' c t:=⟨cell_later k h.1,cell_later k h.2.1,cell_later k h.2.2⟩
theorem TriAt.new (w:World) (x y:ByteArray) (m:Bool) (T:TypeId):TriAt (w.alloc (.cells #[.string x,.string y,.bool m] T)) w.heap.size (x,y,m):=by
 have hh:=w.alloc_heap_new (.cells #[.string x,.string y,.bool m] T);exact⟨by rw[Lib.cell_of_heap hh];rfl,by rw[Lib.cell_of_heap hh];rfl,by rw[Lib.cell_of_heap hh];rfl⟩
open Go.RowKit Go.Shelf
attribute [local go_sem] Oper.semAt_some
end Go.Proofs.Ytokdjfoalkmhiaa
namespace Go.Proofs.Ytokdjfoalkmhiaa
open Go.RowKit Go.Shelf
attribute [local go_sem] Oper.semAt_some
end Go.Proofs.Ytokdjfoalkmhiaa
namespace Go.Proofs.Ytokdjfoalkmhiaa.Vec
open Go.RowKit
abbrev V:=List (ByteArray×Int)
def nm (l:V) (i:Nat):ByteArray:=(l.getD i (ByteArray.empty,0)).1
def qn (l:V) (i:Nat):Int:=(l.getD i (ByteArray.empty,0)).2
def Fine (l:V):Prop:=∀i,i<l.length→(nm l i).size≤maxLen∧-9223372036854775808≤qn l i∧qn l i≤9223372036854775807
def VecAt (w:World) (a:Option Addr) (len:Nat) (l:V):Prop :=
 l.length=len∧len≤maxLen∧Fine l ∧
  (len=0∨∃b off,a=some ⟨b,off,none⟩∧b<w.heap.size ∧
    ∀i,i<len→w.cell? ⟨b,off+i*2,none⟩=some (.string (nm l i))∧w.cell? ⟨b,off+i*2+1,none⟩=some (.int .i64 (qn l i)))
theorem VecAt.kept {w w':World} {a:Option Addr} {len:Nat} {l:V} (h:VecAt w a len l) (k:Kept w w'):VecAt w' a len l:=by
 obtain⟨h0,h1,h2,h3⟩:=h;refine⟨h0,h1,h2,h3.imp id ?_⟩;rintro ⟨b,off,ha,hb,hc⟩;exact⟨b,off,ha,Nat.lt_of_lt_of_le hb k.size,fun i hi =>
  ⟨(Below.cell k (p:=⟨b,off+i*2,none⟩) hb).trans (hc i hi).1,(Below.cell k (p:=⟨b,off+i*2+1,none⟩) hb).trans (hc i hi).2⟩⟩
theorem VecAt.nil (w:World):VecAt w none 0 []:=⟨rfl,by decide,fun i hi=>absurd hi (by simp),.inl rfl⟩
end Go.Proofs.Ytokdjfoalkmhiaa.Vec
namespace Go.Proofs.Ytokdjfoalkmhiaa.Vec
open Go.RowKit
theorem VecAt.cells {w:World} {b off len:Nat} {l:V} {k:Nat} (h:VecAt w (some ⟨b,off,none⟩) len l) (hk:k<len) :
 b<w.heap.size∧w.cell? ⟨b,off+k*2,none⟩=some (.string (nm l k))∧w.cell? ⟨b,off+k*2+1,none⟩=some (.int .i64 (qn l k)):=by
 obtain⟨_,_,_,h3⟩:=h;rcases h3 with h3 | ⟨b',off',e,hb,hc⟩
 · omega
 · injection e with e;injection e with e1 e2 e3;subst e1;subst e2;exact⟨hb,hc k hk⟩
theorem VecAt.form {w:World} {a:Option Addr} {len:Nat} {l:V} (h:VecAt w a len l):len=0∨∃b off,a=some ⟨b,off,none⟩:=by
 obtain⟨_,_,_,h3⟩:=h;exact h3.imp id fun ⟨b,off,e,_⟩=>⟨b,off,e⟩
def behindB (prev:Option ByteArray) (s:ByteArray):Bool:=match prev with | none=>false | some p=>leS s p
def checkFrom:Option ByteArray→V→Int
 | _,[]=>0
 | prev,x::t=>if isName x.1=false then 3 else if x.2≤0 then 1 else if behindB prev x.1=true then 13 else checkFrom (some x.1) t
def checkV (l:V):Int:=if 8<l.length then 4 else checkFrom none l
def Chk (l:V) (v:Value) (w:World) (e:Ending) (w':World):Prop :=
 (checkV l=0→e=.returned v)∧(checkV l≠0→e=.panicked [perr (checkV l)])∧Kept w w'
theorem Chk.good {l:V} {v:Value} {w w':World} (h:checkV l=0) (k:Kept w w'):Chk l v w (.returned v) w':=⟨fun _=>rfl,fun g=>absurd h g,k⟩
theorem Chk.bad {l:V} {v:Value} {w w':World} {c:Int} (h:checkV l=c) (hc:c≠0) (k:Kept w w'):Chk l v w (.panicked [perr c]) w':=⟨fun g=>absurd (h.symm.trans g) hc,fun _=>by rw[h],k⟩
def getV:V→ByteArray→Int
 | [],_=>0
 | x::t,n=>if eqS x.1 n=true then x.2 else getV t n
def cellsOf:V→List Value
 | []=>[]
 | x::t=>.string x.1::.int .i64 x.2::cellsOf t
theorem nm_zero (x:ByteArray×Int) (t:V):nm (x::t) 0=x.1:=rfl
theorem nm_succ (x:ByteArray×Int) (t:V) (i:Nat):nm (x::t) (i+1)=nm t i:=rfl
theorem qn_zero (x:ByteArray×Int) (t:V):qn (x::t) 0=x.2:=rfl
theorem qn_succ (x:ByteArray×Int) (t:V) (i:Nat):qn (x::t) (i+1)=qn t i:=rfl
theorem cellsOf_at:∀(l:V) (i:Nat),i<l.length→(cellsOf l)[i*2]?=some (.string (nm l i))∧(cellsOf l)[i*2+1]?=some (.int .i64 (qn l i))
 | [],i,h=>absurd h (by simp)
 | x::t,0,_=>⟨rfl,rfl⟩
 | x::t,i+1,h=>by
  have:=cellsOf_at t i (by simpa using h);rw[nm_succ,qn_succ,show (i+1)*2=i*2+1+1 from by omega];exact this
theorem Fine.cons {x:ByteArray×Int} {t:V}:Fine (x::t)↔(x.1.size≤maxLen∧-9223372036854775808≤x.2∧x.2≤9223372036854775807)∧Fine t:=by
 constructor
 · intro h;exact⟨h 0 (by simp),fun i hi=>h (i+1) (by simpa using hi)⟩
 · rintro ⟨h0,h⟩ i hi
   cases i with
   | zero=>exact h0
   | succ i=>exact h i (by simpa using hi)
theorem Fine.nil:Fine []:=fun i hi=>absurd hi (by simp)
theorem Fine.snoc:∀{l:V} {s:ByteArray} {n:Int},Fine l→s.size≤maxLen→-9223372036854775808≤n→n≤9223372036854775807→Fine (l++[(s,n)])
 | [],s,n,_,h1,h2,h3=>Fine.cons.2 ⟨⟨h1,h2,h3⟩,Fine.nil⟩
 | x::t,s,n,h,h1,h2,h3=>by
  rw[Fine.cons] at h;exact Fine.cons.2 ⟨h.1,h.2.snoc h1 h2 h3⟩
def OwnV (e:TypeId) (w:World) (base:Nat) (v:Value) (l:V):Prop:=w.ownsRow base e 2 v l.length (cellsOf l)∧Fine l
theorem OwnV.nil (e:TypeId) (w:World) (base:Nat):OwnV e w base (.slice none 0 0) []:=⟨World.ownsRow_nil w base e 2,Fine.nil⟩
theorem OwnV.at_ {e:TypeId} {w:World} {base:Nat} {v:Value} {l:V} (h:OwnV e w base v l) :
 ∃a cap,v=.slice a l.length cap∧l.length≤cap∧cap≤maxLen∧VecAt w a l.length l:=by
 obtain⟨h,hf⟩:=h;have h':=h;obtain⟨_,h1⟩:=h;rcases h1 with ⟨rfl,h0⟩ | ⟨g,cap,cur,rfl,hbg,hg,hn,hm,hs,ht⟩
 · have:l=[]:=List.eq_nil_of_length_eq_zero h0;subst this;exact⟨none,0,rfl,Nat.le_refl _,by decide,VecAt.nil w⟩
 · refine⟨_,cap,rfl,hn,hm,rfl,Nat.le_trans hn hm,hf,.inr ⟨g,0,rfl,?_,fun i hi=>?_⟩⟩
   · rcases Nat.lt_or_ge g w.heap.size with hlt | hge
     · exact hlt
     · rw[Array.getElem?_eq_none hge] at hg;cases hg
   · have c:=h'.cells (g:=g) rfl;have d:=cellsOf_at l i hi;have c1:=c _ _ d.1;have c2:=c _ _ d.2;constructor
     · rw[←c1];congr 1;unfold Addr.add;split<;>simp_all
     · rw[←c2];congr 1
theorem OwnV.kept {e:TypeId} {w w':World} {base:Nat} {v:Value} {l:V} (h:OwnV e w base v l) (k:Kept w w'):OwnV e w' base v l:=by
 obtain⟨⟨h0,h1⟩,hf⟩:=h;refine⟨⟨h0,h1.imp id ?_⟩,hf⟩;rintro ⟨g,cap,cur,rfl,hbg,hg,hn,hm,hs,ht⟩;refine⟨g,cap,cur,rfl,hbg,?_,hn,hm,hs,ht⟩;have hlt:g<w.heap.size:=by
  rcases Nat.lt_or_ge g w.heap.size with hlt | hge
  · exact hlt
  · rw[Array.getElem?_eq_none hge] at hg;cases hg
 exact(k.block g hlt).trans hg
def Reads (w:World) (v:Value) (l:V):Prop:=∃a cap,v=.slice a l.length cap∧l.length≤cap∧cap≤maxLen∧VecAt w a l.length l
theorem Reads.kept {w w':World} {v:Value} {l:V} (h:Reads w v l) (k:Kept w w'):Reads w' v l:=by
 obtain⟨a,cap,e,h1,h2,h3⟩:=h;exact⟨a,cap,e,h1,h2,h3.kept k⟩
theorem VecAt.first {w:World} {b off len:Nat} {x:ByteArray×Int} {t:V} (h:VecAt w (some ⟨b,off,none⟩) len (x::t)) :
 b<w.heap.size∧w.cell? ⟨b,off,none⟩=some (.string x.1)∧w.cell? ⟨b,off+1,none⟩=some (.int .i64 x.2):=by
 have hl:0<len:=by have:=h.1;simp only[List.length_cons] at this;omega
 have:=h.cells hl;simpa [nm_zero,qn_zero] using this
def VecRes (r:Int×V) (base:Nat) (w:World) (e:Ending) (w':World):Prop :=
 (r.1=0→∃v,e=.returned v∧OwnV 64 w' base v r.2)∧(r.1≠0→e=.panicked [perr r.1])∧Below base w w'
theorem VecRes.good {r:Int×V} {base:Nat} {w w':World} {v:Value} (h:r.1=0) (ho:OwnV 64 w' base v r.2) (hb:Below base w w'):VecRes r base w (.returned v) w':=⟨fun _=>⟨v,rfl,ho⟩,fun g=>absurd h g,hb⟩
theorem VecRes.bad {r:Int×V} {base:Nat} {w w':World} {c:Int} (h:r.1=c) (hc:c≠0) (hb:Below base w w'):VecRes r base w (.panicked [perr c]) w':=⟨fun g=>absurd (h.symm.trans g) hc,fun _=>by rw[h],hb⟩
theorem OwnV.base_le {e:TypeId} {w:World} {B B':Nat} {v:Value} {l:V} (h:OwnV e w B' v l) (hb:B≤B'):OwnV e w B v l:=by
 obtain⟨⟨h0,h1⟩,hf⟩:=h;refine⟨⟨h0,h1.imp id ?_⟩,hf⟩;rintro ⟨g,cap,cur,rfl,hbg,rest⟩;exact⟨g,cap,cur,rfl,Nat.le_trans hb hbg,rest⟩
def Done (r:Int×V) (w:World) (e:Ending) (w':World):Prop :=
 ∃v,e=.returned (.tuple #[v,.int .i64 r.1])∧OwnV 64 w' w.heap.size v r.2∧Kept w w'
def nameOf (p:List UInt8):List UInt8:=(Lib.cut p [61]).1
def numOf' (p:List UInt8):List UInt8:=(Lib.cut p [61]).2.1
open Go.RowKit Go.Shelf
attribute [local go_sem] Oper.semAt_some
theorem OwnV.put {e:TypeId} {w:World} {B D:Nat} {v:Value} {l:V} (h:OwnV e w B v l) (hD:D<B) (o:Obj):OwnV e (w.putObj D o) B v l:=by
 obtain⟨⟨h0,h1⟩,hf⟩:=h;refine⟨⟨h0,h1.imp id ?_⟩,hf⟩;rintro ⟨g,cap,cur,rfl,hbg,hg,rest⟩;exact⟨g,cap,cur,rfl,hbg,(World.putObj_heap_other (by omega)).trans hg,rest⟩
theorem OwnV.row {e:TypeId} {w:World} {B n:Nat} {v:Value} {l:V} (h:OwnV e w B v l) (hn:l.length=n):w.ownsRow B e 2 v n (cellsOf l):=hn▸h.1
end Go.Proofs.Ytokdjfoalkmhiaa.Vec
namespace Go.Proofs.Ytokdjfoalkmhiaa.Vec
open Go.RowKit Go.Shelf
def Others (b:Nat) (w w':World):Prop:=∀g cs fr,g≠b→w.heap[g]?=some (.cells cs 64 fr)→w'.heap[g]?=w.heap[g]?
theorem Others.trans {b:Nat} {x y z:World} (h:Others b x y) (k:Others b y z):Others b x z:=fun g cs fr hg hc=>(k g cs fr hg ((h g cs fr hg hc).trans hc)).trans (h g cs fr hg hc)
theorem bytes_size (l:List UInt8):(bytes l).size=l.length:=rfl
open Go.RowKit
theorem Reads.nil (w:World):Reads w (.slice none 0 0) []:=⟨none,0,rfl,Nat.le_refl _,by decide,VecAt.nil w⟩
theorem less_irrefl:∀s:List UInt8,Op.bytesLess s s=false
 | []=>rfl
 | a::s=>by
  have:¬a<a:=UInt8.lt_irrefl a;simp[Op.bytesLess,less_irrefl s,this]
theorem less_trans:∀{a b c:List UInt8},Op.bytesLess a b=true→Op.bytesLess b c=true→Op.bytesLess a c=true
 | _,_,[],_,h=>by simp[Op.bytesLess] at h
 | [],_,_::_,_,_=>by simp[Op.bytesLess]
 | x::a,[],z::c,h,_=>by simp[Op.bytesLess] at h
 | x::a,y::b,z::c,h,g=>by
  simp only[Op.bytesLess,Bool.or_eq_true,Bool.and_eq_true,decide_eq_true_eq,beq_iff_eq] at h g ⊢;rcases h with h | ⟨rfl,h⟩
  · rcases g with g | ⟨rfl,g⟩
    · exact .inl (UInt8.lt_trans h g)
    · exact .inl h
  · rcases g with g | ⟨rfl,g⟩
    · exact .inl g
    · exact .inr ⟨rfl,less_trans h g⟩
theorem lt_of (s t:ByteArray):ltS s t=Op.bytesLess s.data.toList t.data.toList:=by unfold ltS;rw[Lib.toList_data,Lib.toList_data]
theorem eqS_iff {s t:ByteArray}:eqS s t=true↔s=t:=by
 unfold eqS;rw[Lib.toList_data,Lib.toList_data,beq_iff_eq];exact⟨fun h=>Go.WideShapes.bytes_inj h,fun h=>by rw[h]⟩
theorem lt_irrefl' (s:ByteArray):ltS s s=false:=by rw[lt_of];exact less_irrefl _
theorem lt_trans' {s t u:ByteArray} (h:ltS s t=true) (g:ltS t u=true):ltS s u=true:=by
 rw[lt_of] at *;exact less_trans h g
theorem lt_ne {s t:ByteArray} (h:ltS s t=true):s≠t:=by rintro rfl;rw[lt_irrefl'] at h;cases h
theorem lt_asymm' {s t:ByteArray} (h:ltS s t=true) (g:ltS t s=true):False:=lt_ne (lt_trans' h g) rfl
def Gd (l:V):Prop:=(∀x ∈ l,isName x.1=true∧0<x.2∧x.2≤9223372036854775807)∧l.Pairwise (fun x y=>ltS x.1 y.1=true)
theorem Gd.nil:Gd []:=⟨fun x hx=>absurd hx (by simp),.nil⟩
theorem Gd.cons {x:ByteArray×Int} {t:V}:Gd (x::t)↔(isName x.1=true∧0<x.2∧x.2≤9223372036854775807)∧(∀y ∈ t,ltS x.1 y.1=true)∧Gd t:=by
 unfold Gd;rw[List.pairwise_cons,List.forall_mem_cons];constructor
 · rintro ⟨⟨a,b⟩,c,d⟩;exact⟨a,c,b,d⟩
 · rintro ⟨a,c,b,d⟩;exact⟨⟨a,b⟩,c,d⟩
theorem get_same (x:ByteArray×Int) (t:V):getV (x::t) x.1=x.2:=by rw[getV,if_pos (eqS_iff.2 rfl)]
theorem get_other {x:ByteArray×Int} {n:ByteArray} (t:V) (h:x.1≠n):getV (x::t) n=getV t n:=by rw[getV,if_neg (fun e=>h (eqS_iff.1 e))]
theorem get_mem:∀{l:V} {n:ByteArray},getV l n≠0→∃y ∈ l,y.1=n
 | [],_,h=>absurd rfl h
 | x::t,n,h=>by
  by_cases e:x.1=n
  · exact⟨x,by simp,e⟩
  · rw[get_other t e] at h;obtain⟨y,hy,hn⟩:=get_mem h;exact⟨y,by simp[hy],hn⟩
theorem Gd.len:∀{b r:V},Gd r→Gd b→(∀n,getV r n≠0→getV b n≠0)→r.length≤b.length
 | [],[],_,_,_=>Nat.le_refl _
 | [],x::s,hr,_,h=>by
  have:=h x.1;rw[get_same] at this;have h1:=(Gd.cons.1 hr).1;exact absurd rfl (this (by omega))
 | y::t,[],_,_,_=>Nat.zero_le _
 | y::t,x::s,hr,hb,h=>by
  have hr':=Gd.cons.1 hr;have hb':=Gd.cons.1 hb;have:s.length≤t.length:=Gd.len hr'.2.2 hb'.2.2 fun n hn=>by
   obtain⟨z,hz,rfl⟩:=get_mem hn;have hlt:=hr'.2.1 z hz;have hb2:=h z.1 (by rw[get_other s (lt_ne hlt)];exact hn);by_cases e:y.1=z.1
   · obtain⟨u,hu,hux⟩:=get_mem (h x.1 (by rw[get_same];omega));rcases List.mem_cons.1 hu with rfl | hu
     · rw[←hux,e,lt_irrefl'] at hlt;cases hlt
     · have:=hb'.2.1 u hu;rw[hux,e] at this;exact(lt_asymm' hlt this).elim
   · rw[get_other t e] at hb2;exact hb2
  simp only[List.length_cons];omega
theorem Reads.fine {v:Value} {l:V} {w:World} (h:Reads w v l):Fine l:=by
 obtain⟨a,cap,rfl,h1,h2,h3⟩:=h;exact h3.2.2.1
open Go.RowKit Go.Proofs.Ytokdjfoalkmhiaa
def Inner (w:World) (v:Value) (vs:List (Nat×Nat)) (ps:List (List UInt8)):Prop :=
 ∀(i:Nat) (x:Nat×Nat) (p:List UInt8),vs[i]?=some x→ps[i]?=some p→x.1<w.heap.size∧v.ownBlock≠some x.1 ∧
  w.cell? ⟨x.1,0,none⟩=some (.string (bytes (nameOf p)))∧w.cell? ⟨x.1,1,none⟩=some (.string (bytes (numOf' p)))
theorem Inner.nil (w:World) (v:Value) (ps:List (List UInt8)):Inner w v [] ps:=fun i x p h=>by simp at h
theorem Inner.kept {w w':World} {v:Value} {vs:List (Nat×Nat)} {ps:List (List UInt8)} (h:Inner w v vs ps) (k:Kept w w'):Inner w' v vs ps:=fun i x p hx hp=>by
 obtain⟨h1,h2,h3,h4⟩:=h i x p hx hp;exact⟨Nat.lt_of_lt_of_le h1 k.size,h2,cell_later k h3,cell_later k h4⟩
theorem Inner.snoc {w w':World} {v:Value} {vs:List (Nat×Nat)} {ps:List (List UInt8)} {g n cap b c:Nat} {p:List UInt8} (h:Inner w v vs ps) (hg:w.grownBy w' v.ownBlock) (hgo:v.ownBlock=some g∨g=w.heap.size)
 (hp:ps[vs.length]?=some p) (hb:b<w.heap.size) (hne:v.ownBlock≠some b)
 (c0:w.cell? ⟨b,0,none⟩=some (.string (bytes (nameOf p)))) (c1:w.cell? ⟨b,1,none⟩=some (.string (bytes (numOf' p)))) :
 Inner w' (.slice (some ⟨g,0,none⟩) n cap) (vs++[(b,c)]) ps:=by
 have far:∀d,d<w.heap.size→v.ownBlock≠some d→d<w'.heap.size∧(Value.slice (some ⟨g,0,none⟩) n cap).ownBlock≠some d∧∀j,w'.cell? ⟨d,j,none⟩=w.cell? ⟨d,j,none⟩:=fun d hd hn=>by
  refine⟨Nat.lt_of_lt_of_le hd hg.size,?_,fun j=>hg.cell_far ⟨d,j,none⟩ hd (fun e=>hn e.symm)⟩;show some g≠some d;intro e;have e':g=d:=Option.some.inj e;rcases hgo with h1 | h1
  · exact hn (by rw[h1,e'])
  · omega
 intro i x q hx hq;by_cases hi:i<vs.length
 · rw[List.getElem?_append_left hi] at hx;obtain⟨h1,h2,h3,h4⟩:=h i x q hx hq;obtain⟨f1,f2,f3⟩:=far x.1 h1 h2;exact⟨f1,f2,(f3 0).trans h3,(f3 1).trans h4⟩
 · have hi2:i=vs.length:=by
    have:=(List.getElem?_eq_some_iff.1 hx).1;simp at this;omega
   subst hi2;have hxx:(b,c)=x:=by simpa using hx
   have hqq:q=p:=Option.some.inj (hq.symm.trans hp);subst hxx;subst hqq;obtain⟨f1,f2,f3⟩:=far b hb hne;exact⟨f1,f2,(f3 0).trans c0,(f3 1).trans c1⟩
theorem OwnV.reads {e:TypeId} {w:World} {B:Nat} {v:Value} {l:V} (h:OwnV e w B v l):Reads w v l:=h.at_
end Go.Proofs.Ytokdjfoalkmhiaa.Vec
namespace Go.Proofs.Ytokdjfoalkmhiaa
open Go.RowKit
structure Nod where
 name:ByteArray
 cap:Vec.V
 labels:PL
 taints:NL
 cordon:Bool
def Nod.zero:Nod:=⟨ByteArray.empty,[],[],[],false⟩
abbrev NodV (n:Nod) (v1 v2 v3:Value):Value:=.agg #[.string n.name,v1,v2,v3,.bool n.cordon]
structure NodAt (w:World) (v1 v2 v3:Value) (n:Nod):Prop where
 size:n.name.size≤maxLen
 cap:Vec.Reads w v1 n.cap
 labels:Reads PairLay w v2 n.labels
 taints:Reads TaLay w v3 n.taints
theorem NodAt.kept {w w':World} {v1 v2 v3:Value} {n:Nod} (h:NodAt w v1 v2 v3 n) (k:Kept w w'):NodAt w' v1 v2 v3 n:=⟨h.size,h.cap.kept k,h.labels.kept k,h.taints.kept k⟩
def NodR (w:World) (v:Value) (n:Nod):Prop:=∃v1 v2 v3,v=NodV n v1 v2 v3∧NodAt w v1 v2 v3 n
theorem NodR.kept {w w':World} {v:Value} {n:Nod} (h:NodR w v n) (k:Kept w w'):NodR w' v n:=by
 obtain⟨v1,v2,v3,e,h⟩:=h;exact⟨v1,v2,v3,e,h.kept k⟩
end Go.Proofs.Ytokdjfoalkmhiaa
namespace Go.Proofs.Ytokdjfoalkmhiaa.Vec
open Go.RowKit Go.Proofs.Ytokdjfoalkmhiaa
def aheadD (u:Nat):List UInt8:=if u<10 then [] else Lib.decDigits (u / 10)
theorem ahead_last (u:Nat):Lib.decDigits u=aheadD u++[UInt8.ofNat (48+u % 10)]:=by
 unfold aheadD;by_cases h:u<10
 · rw[Lib.decDigits,dif_pos h,if_pos h,Nat.mod_eq_of_lt h];rfl
 · rw[Lib.decDigits,dif_neg h,if_neg h]
def dig (d:Int):UInt8:=UInt8.ofNat d.toNat
theorem dig_nat (u:Nat):dig (48+(u:Int) % 10)=UInt8.ofNat (48+u % 10):=by
 unfold dig;rw[show (48+(u:Int) % 10).toNat=48+u % 10 by omega]
theorem conv_one (W:World) (d:Int):Sem.run Try.prog (convert 43 9 (.slice (some ⟨W.heap.size,0,none⟩) 1 1)) (W.alloc (.cells #[.int .u8 d] 5))=.ok (.string (bytes [dig d])) (W.alloc (.cells #[.int .u8 d] 5)) :=
 run_convert_bytes_arg (W.alloc (.cells #[.int .u8 d] 5)) 43 5 Try.underlying43 Try.underlying5 W.heap.size 0 1 1 [d] rfl (fun i hi=>by
  obtain rfl:i=0:=by omega
  have hh:=W.alloc_heap_new (.cells #[.int .u8 d] 5);rw[Lib.cell_of_heap hh];rfl) 9 Try.underlying9
theorem dd_len:∀(k u:Nat),u<10 ^ (k+1)→(Lib.decDigits u).length≤k+1
 | 0,u,h=>by rw[Lib.decDigits,dif_pos (by simpa using h)];simp
 | k+1,u,h=>by
  by_cases h10:u<10
  · rw[Lib.decDigits,dif_pos h10];simp
  · rw[Lib.decDigits,dif_neg h10,List.length_append];have:=dd_len k (u / 10) (by rw[Nat.pow_succ] at h;omega);simp;omega
theorem dd_short {u:Nat} (h:u≤9223372036854775808):(Lib.decDigits u).length≤19:=dd_len 18 u (Nat.lt_of_le_of_lt h (by decide))
theorem bytes_app (x y:List UInt8):bytes x++bytes y=bytes (x++y):=by
 apply Go.WideShapes.bytes_inj;simp[bytes,ByteArray.data_append]
theorem dec_nat (u:Nat) (w:World) (hu:u≤9223372036854775807) :
 Calls Try.prog 6 #[.int .i64 (u:Int)] w fun e w'=>e=.returned (.string (bytes (Lib.decDigits u)))∧Kept w w':=by
 have hn:¬(u:Int)<0:=by omega
 have cv:=conv_one;go_enter Try.func6,Try.ntmps6;go_wp2;go_loopw [0,3] (fun n s wr=>∃(v:Nat) (t:List UInt8),v≤u∧n=.int .i64 v∧s=.string (bytes t)∧Hid (Lib.decDigits u=aheadD v++t)∧Kept w wr) (fun n _ _=>(intOf n).toNat)
 case atStart =>
  refine⟨u,[UInt8.ofNat (48+u % 10)],Nat.le_refl _,rfl,?_,lH (ahead_last u),kept_alloc _ _⟩;rw[dig_nat]
 case round =>
  obtain⟨v,t,hv,rfl,rfl,HT,hK⟩:=hrel;have HK:=lH hK;clear hK;by_cases h10:v<10
  · have HE:=lH (show Lib.decDigits u=t by rw[HT];unfold aheadD;rw[if_pos h10];rfl);go_wp2;go_ret;rw[HE.out];exact⟨rfl,HK.out⟩
  · obtain⟨q,hq⟩:=eX (v / 10)
    have hqi:(v:Int) / 10=(q:Int):=by omega
    have hge:(10:Int)≤(v:Int):=by omega
    have hsz:(bytes [dig (48+(q:Int) % 10)]).size=1:=by simp[bytes,ByteArray.size]
    have hst:(bytes t).size=t.length:=bytes_size t;have hlen:t.length≤19:=by
     have h1:=congrArg List.length HT;rw[List.length_append] at h1;have:=dd_short (u:=u) (by omega);omega
    have HN:=lH (show Lib.decDigits u=aheadD q++(dig (48+(q:Int) % 10)::t) by
     rw[HT,dig_nat];have:aheadD v=Lib.decDigits q:=by unfold aheadD;rw[if_neg h10,hq]
     rw[this,ahead_last q];simp)
    clear HT;go_wp2;go_roundw
    case rel =>
     refine⟨q,dig (48+(q:Int) % 10)::t,by omega,rfl,?_,HN,HK.out.trans (kept_alloc _ _)⟩;rw[bytes_app];rfl
    case measure=>simp[intOf];omega
theorem itoa_least:bytes (Lib.itoa (-9223372036854775808))=⟨#[45,57,50,50,51,51,55,50,48,51,54,56,53,52,55,55,53,56,48,56]⟩:=by
 simp[Lib.itoa,Lib.decDigits,bytes]
theorem decimal_any (n:Int) (w:World) (h1:-9223372036854775808≤n) (h2:n≤9223372036854775807) :
 Calls Try.prog 6 #[.int .i64 n] w fun e w'=>e=.returned (.string (bytes (Lib.itoa n)))∧Kept w w':=by
 by_cases h0:0≤n
 · obtain⟨u,rfl⟩:∃u:Nat,n=(u:Int):=⟨n.toNat,by omega⟩
   have e:Lib.itoa (u:Int)=Lib.decDigits u:=by unfold Lib.itoa;rw[if_neg (by omega)];rfl
   rw[e];exact dec_nat u w (by omega)
 · by_cases hm:n=-9223372036854775808
   · subst hm;have HV:=lH itoa_least;clear h0 h1 h2;go_enter Try.func6,Try.ntmps6;go_wp2;go_ret;rw[HV.out];exact⟨rfl,Kept.refl _⟩
   · obtain⟨u,hu⟩:∃u:Nat,-n=(u:Int):=⟨(-n).toNat,by omega⟩
     have e:Lib.itoa n=45::Lib.decDigits u:=by
      unfold Lib.itoa;rw[if_pos (by omega),show n.natAbs=u by omega]
     have HE:=lH e;have hs:(0:Int)-n=(u:Int):=by omega
     have hl:=dd_short (u:=u) (by omega);have hsz:(bytes (Lib.decDigits u)).size=(Lib.decDigits u).length:=bytes_size _;have hlt:n<0:=by omega
     have hne:(n==-9223372036854775808)=false:=by simpa using hm
     have HD:=lH (fun W=>dec_nat u W (by omega));have hw:IntKind.i64.wrap (0-n)=(u:Int):=by rw[hs,IntKind.wrap_i64];omega
     clear e hu h0;go_enter Try.func6,Try.ntmps6;go_wp2_with fail
     refine(HD.out _).mono ?_;rintro e w1 ⟨rfl,k⟩;have K:=lH k;clear k;go_wp2;go_ret;rw[HE.out];exact⟨by rw[show (⟨#[45]⟩:ByteArray)=bytes [45] from rfl,bytes_app];rfl,K.out⟩
end Go.Proofs.Ytokdjfoalkmhiaa.Vec
namespace Go.Proofs.Ytokdjfoalkmhiaa
open Go.RowKit
def NodRB (B:Nat) (w:World) (v:Value) (n:Nod):Prop:=∃a1 m1 c1 a2 m2 c2 a3 m3 c3,v=.agg #[.string n.name,.slice a1 m1 c1,.slice a2 m2 c2,.slice a3 m3 c3,.bool n.cordon]∧n.name.size≤maxLen∧Vec.Reads w (.slice a1 m1 c1) n.cap∧Reads PairLay w (.slice a2 m2 c2) n.labels∧Reads TaLay w (.slice a3 m3 c3) n.taints ∧
 (∀b off sp,a1=some ⟨b,off,sp⟩→B≤b)∧(∀b off sp,a2=some ⟨b,off,sp⟩→B≤b)∧(∀b off sp,a3=some ⟨b,off,sp⟩→B≤b)
theorem NodRB.toR {B:Nat} {w:World} {v:Value} {n:Nod} (h:NodRB B w v n):NodR w v n:=by
 obtain⟨a1,m1,c1,a2,m2,c2,a3,m3,c3,e,h0,h1,h2,h3,_⟩:=h;exact⟨_,_,_,e,h0,h1,h2,h3⟩
def NodRes (r:Int×Nod) (w:World) (e:Ending) (w':World):Prop:=(r.1=0→∃v,e=.returned v∧NodRB w.heap.size w' v r.2)∧(r.1≠0→e=.panicked [perr r.1])∧Kept w w'
theorem NodRes.good {r:Int×Nod} {w w':World} {v:Value} (h:r.1=0) (ho:NodRB w.heap.size w' v r.2) (hb:Kept w w'):NodRes r w (.returned v) w':=⟨fun _=>⟨v,rfl,ho⟩,fun g=>absurd h g,hb⟩
theorem NodRes.bad {r:Int×Nod} {w w':World} {c:Int} (h:r.1=c) (hc:c≠0) (hb:Kept w w'):NodRes r w (.panicked [perr c]) w':=⟨fun g=>absurd (h.symm.trans g) hc,fun _=>by rw[h],hb⟩
theorem Vec.Done.spelt {r:Int×Vec.V} {w w':World} {e:Ending} (h:Vec.Done r w e w'):∃a m cap,e=.returned (.tuple #[.slice a m cap,.int .i64 r.1])∧Vec.Reads w' (.slice a m cap) r.2∧(∀b off sp,a=some ⟨b,off,sp⟩→w.heap.size≤b∧b<w'.heap.size)∧Kept w w':=by
 obtain⟨v,rfl,ho,k⟩:=h;obtain⟨a,cap,rfl,h⟩:=ho.at_;exact⟨a,_,cap,rfl,⟨a,cap,rfl,h⟩,fun b off sp e=>ho.1.lt b (by subst e;rfl),k⟩
theorem Reads.far {α:Type} {L:Lay α} {w w':World} {a:Option Addr} {m cap:Nat} {l:List α} (h:Reads L w (.slice a m cap) l) (hs:w'.heap.size=w.heap.size) (hb:∀b off sp,a=some ⟨b,off,sp⟩→w'.heap[b]?=w.heap[b]?):Reads L w' (.slice a m cap) l:=by
 obtain⟨a',cap',e,h1,h2,h3,h4,h5,h6⟩:=h
 cases e
 refine⟨a,cap,rfl,h1,h2,h3,h4,h5,h6.imp id ?_⟩;rintro ⟨b,off,rfl,hlt,hc⟩;exact⟨b,off,rfl,by rw[hs];exact hlt,fun i x j u hi hj=>(World.cell?_of_block (a:=⟨b,off+i*L.m+j,none⟩) (hb b off none rfl)).trans (hc i x j u hi hj)⟩
theorem Vec.Reads.far {w w':World} {a:Option Addr} {m cap:Nat} {l:Vec.V} (h:Vec.Reads w (.slice a m cap) l) (hs:w'.heap.size=w.heap.size) (hb:∀b off sp,a=some ⟨b,off,sp⟩→w'.heap[b]?=w.heap[b]?):Vec.Reads w' (.slice a m cap) l:=by
 obtain⟨a',cap',e,h1,h2,h3,h4,h5,h6⟩:=h
 cases e
 refine⟨a,cap,rfl,h1,h2,h3,h4,h5,h6.imp id ?_⟩;rintro ⟨b,off,rfl,hlt,hc⟩;exact⟨b,off,rfl,by rw[hs];exact hlt,fun i hi=>⟨(World.cell?_of_block (a:=⟨b,off+i*2,none⟩) (hb b off none rfl)).trans (hc i hi).1,(World.cell?_of_block (a:=⟨b,off+i*2+1,none⟩) (hb b off none rfl)).trans (hc i hi).2⟩⟩
theorem NodRB.less {B B':Nat} {w:World} {v:Value} {n:Nod} (h:NodRB B w v n) (hb:B'≤B):NodRB B' w v n:=by
 obtain⟨a1,m1,c1,a2,m2,c2,a3,m3,c3,e,h0,h1,h2,h3,g1,g2,g3⟩:=h;exact⟨a1,m1,c1,a2,m2,c2,a3,m3,c3,e,h0,h1,h2,h3,fun b o s e=>Nat.le_trans hb (g1 b o s e),fun b o s e=>Nat.le_trans hb (g2 b o s e),fun b o s e=>Nat.le_trans hb (g3 b o s e)⟩
theorem NodRB.far {B:Nat} {w w':World} {v:Value} {n:Nod} (h:NodRB B w v n) (hs:w'.heap.size=w.heap.size) (hb:∀b,B≤b→w'.heap[b]?=w.heap[b]?):NodRB B w' v n:=by
 obtain⟨a1,m1,c1,a2,m2,c2,a3,m3,c3,e,h0,h1,h2,h3,g1,g2,g3⟩:=h;exact⟨a1,m1,c1,a2,m2,c2,a3,m3,c3,e,h0,h1.far hs (fun b o s e=>hb b (g1 b o s e)),h2.far hs (fun b o s e=>hb b (g2 b o s e)),h3.far hs (fun b o s e=>hb b (g3 b o s e)),g1,g2,g3⟩
theorem NodRB.kept {B:Nat} {w w':World} {v:Value} {n:Nod} (h:NodRB B w v n) (k:Kept w w'):NodRB B w' v n:=by
 obtain⟨a1,m1,c1,a2,m2,c2,a3,m3,c3,e,h0,h1,h2,h3,g1,g2,g3⟩:=h;exact⟨a1,m1,c1,a2,m2,c2,a3,m3,c3,e,h0,h1.kept k,h2.kept k,h3.kept k,g1,g2,g3⟩
def Cells5 (q:Nat) (v0 v1 v2 v3 v4:Value) (W:World):Prop :=
 (W.cell? ⟨q,0,none⟩=some v0∧W.cell? ⟨q,1,none⟩=some v1∧W.cell? ⟨q,2,none⟩=some v2∧W.cell? ⟨q,3,none⟩=some v3∧W.cell? ⟨q,4,none⟩=some v4) ∧
  W.frozen? ⟨q,0,none⟩=false∧W.frozen? ⟨q,1,none⟩=false∧W.frozen? ⟨q,2,none⟩=false∧W.frozen? ⟨q,3,none⟩=false∧W.frozen? ⟨q,4,none⟩=false
theorem Cells5.block {q:Nat} {v0 v1 v2 v3 v4:Value} {W W':World} (h:Cells5 q v0 v1 v2 v3 v4 W) (e:W'.heap[q]?=W.heap[q]?):Cells5 q v0 v1 v2 v3 v4 W':=by
 have c:∀j,W'.cell? ⟨q,j,none⟩=W.cell? ⟨q,j,none⟩:=fun j=>World.cell?_of_block (a:=⟨q,j,none⟩) e;have f:∀j,W'.frozen? ⟨q,j,none⟩=W.frozen? ⟨q,j,none⟩:=fun j=>World.frozen?_of_block (a:=⟨q,j,none⟩) e;unfold Cells5;simp only[c,f];exact h
theorem Cells5.kept {q:Nat} {v0 v1 v2 v3 v4:Value} {W W':World} (h:Cells5 q v0 v1 v2 v3 v4 W) (k:Kept W W'):Cells5 q v0 v1 v2 v3 v4 W':=h.block (k.block q (World.block_lt_of_cell? _ _ h.1.1))
theorem Cells5.other {q p j:Nat} {v0 v1 v2 v3 v4 u:Value} {W:World} (h:Cells5 q v0 v1 v2 v3 v4 W) (hp:q≠p):Cells5 q v0 v1 v2 v3 v4 (W.setCell ⟨p,j,none⟩ u):=h.block (Below.heap_setCell W ⟨p,j,none⟩ u q hp)
def NodesAt (w:World) (a:Option Addr) (len:Nat) (l:List Nod):Prop :=
 l.length=len∧len≤maxLen∧(len=0∨∃b off,a=some ⟨b,off,none⟩∧b<w.heap.size∧∀i n,l[i]?=some n→∃a1 m1 c1 a2 m2 c2 a3 m3 c3,
  w.cell? ⟨b,off+i*5,none⟩=some (.string n.name)∧w.cell? ⟨b,off+i*5+1,none⟩=some (.slice a1 m1 c1)∧w.cell? ⟨b,off+i*5+2,none⟩=some (.slice a2 m2 c2)∧w.cell? ⟨b,off+i*5+3,none⟩=some (.slice a3 m3 c3)∧w.cell? ⟨b,off+i*5+4,none⟩=some (.bool n.cordon) ∧
  NodAt w (.slice a1 m1 c1) (.slice a2 m2 c2) (.slice a3 m3 c3) n)
theorem NodesAt.kept {w w':World} {a:Option Addr} {len:Nat} {l:List Nod} (h:NodesAt w a len l) (k:Kept w w'):NodesAt w' a len l:=by
 obtain⟨h0,h1,h2⟩:=h;refine⟨h0,h1,h2.imp id ?_⟩;rintro ⟨b,off,rfl,hb,hc⟩;refine⟨b,off,rfl,Nat.lt_of_lt_of_le hb k.size,fun i n hi=>?_⟩;obtain⟨a1,m1,c1,a2,m2,c2,a3,m3,c3,p0,p1,p2,p3,p4,hn⟩:=hc i n hi;exact⟨a1,m1,c1,a2,m2,c2,a3,m3,c3,cell_later k p0,cell_later k p1,cell_later k p2,cell_later k p3,cell_later k p4,hn.kept k⟩
theorem NodesAt.form {w:World} {a:Option Addr} {len:Nat} {l:List Nod} (h:NodesAt w a len l):len=0∨∃b off,a=some ⟨b,off,none⟩:=by
 obtain⟨_,_,h2⟩:=h;exact h2.imp id fun ⟨b,off,e,_⟩=>⟨b,off,e⟩
theorem NodesAt.at_ {w:World} {b off len:Nat} {l:List Nod} {k:Nat} (h:NodesAt w (some ⟨b,off,none⟩) len l) (hk:k<len):∃n a1 m1 c1 a2 m2 c2 a3 m3 c3,l[k]?=some n∧l.drop k=n::l.drop (k+1)∧b<w.heap.size ∧
 w.cell? ⟨b,off+k*5,none⟩=some (.string n.name)∧w.cell? ⟨b,off+k*5+1,none⟩=some (.slice a1 m1 c1)∧w.cell? ⟨b,off+k*5+2,none⟩=some (.slice a2 m2 c2)∧w.cell? ⟨b,off+k*5+3,none⟩=some (.slice a3 m3 c3)∧w.cell? ⟨b,off+k*5+4,none⟩=some (.bool n.cordon) ∧
 NodAt w (.slice a1 m1 c1) (.slice a2 m2 c2) (.slice a3 m3 c3) n:=by
 obtain⟨h0,_,h3⟩:=h;have hkl:k<l.length:=by omega
 rcases h3 with h3 | ⟨b',off',e,hb,hc⟩
 · omega
 · injection e with e;injection e with e1 e2 e3;subst e1;subst e2;have he:l[k]?=some l[k]:=List.getElem?_eq_getElem hkl;obtain⟨a1,m1,c1,a2,m2,c2,a3,m3,c3,r⟩:=hc k _ he;exact⟨l[k],a1,m1,c1,a2,m2,c2,a3,m3,c3,he,List.drop_eq_getElem_cons hkl,hb,r⟩
def NodesR (w:World) (v:Value) (l:List Nod):Prop:=∃a cap,v=.slice a l.length cap∧l.length≤cap∧cap≤maxLen∧NodesAt w a l.length l
theorem NodesR.kept {w w':World} {v:Value} {l:List Nod} (h:NodesR w v l) (k:Kept w w'):NodesR w' v l:=by
 obtain⟨a,cap,e,h1,h2,h3⟩:=h;exact⟨a,cap,e,h1,h2,h3.kept k⟩
structure CellsN (q:Nat) (vs:List Value) (W:World):Prop where
 at_:∀i v,vs[i]?=some v→W.cell? ⟨q,i,none⟩=some v
 free:∀i,W.frozen? ⟨q,i,none⟩=false
theorem CellsN.block {q:Nat} {vs:List Value} {W W':World} (h:CellsN q vs W) (e:W'.heap[q]?=W.heap[q]?):CellsN q vs W' :=
 ⟨fun i v hv=>(World.cell?_of_block (a:=⟨q,i,none⟩) e).trans (h.at_ i v hv),fun i=>(World.frozen?_of_block (a:=⟨q,i,none⟩) e).trans (h.free i)⟩
theorem CellsN.at3 {q:Nat} {a b c:Value} {r9:List Value} {W:World} (h:CellsN q (a::b::c::r9) W):W.cell? ⟨q,0,none⟩=some a∧W.cell? ⟨q,1,none⟩=some b∧W.cell? ⟨q,2,none⟩=some c:=⟨h.at_ 0 _ rfl,h.at_ 1 _ rfl,h.at_ 2 _ rfl⟩
theorem CellsN.at11 {q:Nat} {a b c d e f g i j k l:Value} {r9:List Value} {W:World} (h:CellsN q (a::b::c::d::e::f::g::i::j::k::l::r9) W):W.cell? ⟨q,0,none⟩=some a∧W.cell? ⟨q,1,none⟩=some b∧W.cell? ⟨q,2,none⟩=some c∧W.cell? ⟨q,3,none⟩=some d∧W.cell? ⟨q,4,none⟩=some e∧W.cell? ⟨q,5,none⟩=some f∧W.cell? ⟨q,6,none⟩=some g∧W.cell? ⟨q,7,none⟩=some i∧W.cell? ⟨q,8,none⟩=some j∧W.cell? ⟨q,9,none⟩=some k∧W.cell? ⟨q,10,none⟩=some l:=⟨h.at_ 0 _ rfl,h.at_ 1 _ rfl,h.at_ 2 _ rfl,h.at_ 3 _ rfl,h.at_ 4 _ rfl,h.at_ 5 _ rfl,h.at_ 6 _ rfl,h.at_ 7 _ rfl,h.at_ 8 _ rfl,h.at_ 9 _ rfl,h.at_ 10 _ rfl⟩
theorem CellsN.lt {q:Nat} {v:Value} {vs:List Value} {W:World} (h:CellsN q (v::vs) W):q<W.heap.size:=World.block_lt_of_cell? _ _ (h.at_ 0 v rfl)
theorem CellsN.kept {q:Nat} {v:Value} {vs:List Value} {W W':World} (h:CellsN q (v::vs) W) (k:Kept W W'):CellsN q (v::vs) W':=h.block (k.block q h.lt)
theorem CellsN.other {q p j:Nat} {u:Value} {vs:List Value} {W:World} (h:CellsN q vs W) (hp:q≠p):CellsN q vs (W.setCell ⟨p,j,none⟩ u):=h.block (Below.heap_setCell W ⟨p,j,none⟩ u q hp)
theorem freshN (w:World) (v:Value) (vs:List Value) (T:TypeId) (W:World) (k:Kept (w.alloc (.cells (v::vs).toArray T)) W):CellsN w.heap.size (v::vs) W:=by
 have hh:=w.alloc_heap_new (.cells (v::vs).toArray T);have h:CellsN w.heap.size (v::vs) (w.alloc (.cells (v::vs).toArray T)):=⟨fun i u hu=>by rw[Lib.cell_of_heap hh];simpa using hu,fun i=>by
  unfold World.frozen?;rw[show (w.alloc (.cells (v::vs).toArray T)).heap[(⟨w.heap.size,i,none⟩:Addr).block]?=some (.cells (v::vs).toArray T) from hh];simp⟩
 exact h.kept k
theorem CellsN.set {q j:Nat} {u:Value} {vs:List Value} {W:World} (h:CellsN q vs W) (hj:j<vs.length):CellsN q (vs.set j u) (W.setCell ⟨q,j,none⟩ u):=by
 refine⟨fun i v hv=>?_,fun i=>by rw[World.frozen?_setCell];exact h.free i⟩;by_cases e:j=i
 · subst e;have hv':v=u:=by rw[List.getElem?_set_self hj] at hv;exact(Option.some.inj hv).symm
   subst hv';exact World.cell?_setCell_same _ _ _ (h.at_ j _ (List.getElem?_eq_getElem hj))
 · rw[List.getElem?_set_ne e] at hv;rw[World.cell?_setCell_other _ _ _ _ (by simp)];exact h.at_ i v hv
theorem setCells_size (q:Nat):∀(vs:List Value) (o:Nat) (W:World),(W.setCells q o vs).heap.size=W.heap.size
 | [],_,_=>rfl
 | v::r,o,W=>by rw[World.setCells,setCells_size q r];simp[World.setCell]
theorem setCells_block (q:Nat):∀(vs:List Value) (o:Nat) (W:World) (b:Nat),b≠q→(W.setCells q o vs).heap[b]?=W.heap[b]?
 | [],_,_,_,_=>rfl
 | v::r,o,W,b,h=>by rw[World.setCells,setCells_block q r _ _ b h];exact Below.heap_setCell W ⟨q,o,none⟩ v b h
theorem setCells_below (q:Nat):∀(vs:List Value) (o:Nat) (W:World) (B:Nat) (w:World),B≤q→Below B w W→Below B w (W.setCells q o vs)
 | [],_,_,_,_,_,k=>k
 | v::r,o,W,B,w,h,k=>by rw[World.setCells];exact setCells_below q r _ _ B w h (k.setCell (p:=⟨q,o,none⟩) h _)
structure PutN (q:Nat) (vs:List Value) (W W':World):Prop where
 cells:CellsN q vs W'
 size:W'.heap.size=W.heap.size
 far:∀b,b≠q→W'.heap[b]?=W.heap[b]?
 below:∀B w,B≤q→Below B w W→Below B w W'
theorem putN {q:Nat} {us vs:List Value} {W:World} (h:CellsN q us W) (hl:us.length=vs.length):PutN q vs W (W.setCells q 0 vs):=by
 refine⟨⟨fun i v hv=>?_,fun i=>by rw[World.frozen?_setCells];exact h.free i⟩,setCells_size q vs 0 W,fun b hb=>setCells_block q vs 0 W b hb,fun B w hB k=>setCells_below q vs 0 W B w hB k⟩;have hi:i<vs.length:=(List.getElem?_eq_some_iff.1 hv).1;have:=World.cell?_setCells_in q vs 0 W (fun j hj=>by rw[Nat.zero_add,h.at_ j _ (List.getElem?_eq_getElem (by omega))];rfl) i hi;rw[Nat.zero_add] at this;rw[this];obtain⟨_,e⟩:=List.getElem?_eq_some_iff.1 hv;rw[e]
structure Pd where
 name:ByteArray
 owner:ByteArray
 prio:Int
 need:Vec.V
 labels:PL
 sel:TL
 tols:NL
 key:ByteArray
 most:Int
 node:ByteArray
 hold:Bool
def Pd.zero:Pd:=⟨ByteArray.empty,ByteArray.empty,0,[],[],[],[],ByteArray.empty,0,ByteArray.empty,false⟩
abbrev PodV (n:Pd) (v1 v2 v3 v4:Value):Value:=.agg #[.string n.name,.string n.owner,.int .i64 n.prio,v1,v2,v3,v4,.string n.key,.int .i64 n.most,.string n.node,.bool n.hold]
structure PodAt (w:World) (v1 v2 v3 v4:Value) (n:Pd):Prop where
 name:n.name.size≤maxLen
 owner:n.owner.size≤maxLen
 key:n.key.size≤maxLen
 node:n.node.size≤maxLen
 prio:-9223372036854775808≤n.prio∧n.prio≤9223372036854775807
 most:-9223372036854775808≤n.most∧n.most≤9223372036854775807
 need:Vec.Reads w v1 n.need
 labels:Reads PairLay w v2 n.labels
 sel:Reads TermLay w v3 n.sel
 tols:Reads TaLay w v4 n.tols
theorem PodAt.kept {w w':World} {v1 v2 v3 v4:Value} {n:Pd} (h:PodAt w v1 v2 v3 v4 n) (k:Kept w w'):PodAt w' v1 v2 v3 v4 n:=⟨h.name,h.owner,h.key,h.node,h.prio,h.most,h.need.kept k,h.labels.kept k,h.sel.kept k,h.tols.kept k⟩
def PodR (w:World) (v:Value) (n:Pd):Prop:=∃v1 v2 v3 v4,v=PodV n v1 v2 v3 v4∧PodAt w v1 v2 v3 v4 n
theorem PodR.kept {w w':World} {v:Value} {n:Pd} (h:PodR w v n) (k:Kept w w'):PodR w' v n:=by
 obtain⟨v1,v2,v3,v4,e,h⟩:=h;exact⟨v1,v2,v3,v4,e,h.kept k⟩
def Behind (B:Nat) (a:Option Addr):Prop:=∀b off sp,a=some ⟨b,off,sp⟩→B≤b
theorem Behind.less {B B':Nat} {a:Option Addr} (h:Behind B a) (hb:B'≤B):Behind B' a:=fun b o s e=>Nat.le_trans hb (h b o s e)
theorem Behind.none (B:Nat):Behind B none:=fun _ _ _ e=>by cases e
def PodRB (B:Nat) (w:World) (v:Value) (n:Pd):Prop:=∃b1 n1 d1 b2 n2 d2 b3 n3 d3 b4 n4 d4,v=PodV n (.slice b1 n1 d1) (.slice b2 n2 d2) (.slice b3 n3 d3) (.slice b4 n4 d4)∧PodAt w (.slice b1 n1 d1) (.slice b2 n2 d2) (.slice b3 n3 d3) (.slice b4 n4 d4) n∧Behind B b1∧Behind B b2∧Behind B b3∧Behind B b4
theorem PodRB.toR {B:Nat} {w:World} {v:Value} {n:Pd} (h:PodRB B w v n):PodR w v n:=by
 obtain⟨b1,n1,d1,b2,n2,d2,b3,n3,d3,b4,n4,d4,e,h,_⟩:=h;exact⟨_,_,_,_,e,h⟩
theorem PodAt.far {B:Nat} {w w':World} {n:Pd} {b1 b2 b3 b4:Option Addr} {n1 d1 n2 d2 n3 d3 n4 d4:Nat} (h:PodAt w (.slice b1 n1 d1) (.slice b2 n2 d2) (.slice b3 n3 d3) (.slice b4 n4 d4) n) (hs:w'.heap.size=w.heap.size) (hb:∀b,B≤b→w'.heap[b]?=w.heap[b]?) (g1:Behind B b1) (g2:Behind B b2) (g3:Behind B b3) (g4:Behind B b4):PodAt w' (.slice b1 n1 d1) (.slice b2 n2 d2) (.slice b3 n3 d3) (.slice b4 n4 d4) n :=
 ⟨h.name,h.owner,h.key,h.node,h.prio,h.most,h.need.far hs (fun b o s e=>hb b (g1 b o s e)),h.labels.far hs (fun b o s e=>hb b (g2 b o s e)),h.sel.far hs (fun b o s e=>hb b (g3 b o s e)),h.tols.far hs (fun b o s e=>hb b (g4 b o s e))⟩
theorem PodRB.far {B:Nat} {w w':World} {v:Value} {n:Pd} (h:PodRB B w v n) (hs:w'.heap.size=w.heap.size) (hb:∀b,B≤b→w'.heap[b]?=w.heap[b]?):PodRB B w' v n:=by
 obtain⟨b1,n1,d1,b2,n2,d2,b3,n3,d3,b4,n4,d4,e,h,g1,g2,g3,g4⟩:=h;exact⟨b1,n1,d1,b2,n2,d2,b3,n3,d3,b4,n4,d4,e,h.far hs hb g1 g2 g3 g4,g1,g2,g3,g4⟩
theorem PodRB.less {B B':Nat} {w:World} {v:Value} {n:Pd} (h:PodRB B w v n) (hb:B'≤B):PodRB B' w v n:=by
 obtain⟨b1,n1,d1,b2,n2,d2,b3,n3,d3,b4,n4,d4,e,h,g1,g2,g3,g4⟩:=h;exact⟨b1,n1,d1,b2,n2,d2,b3,n3,d3,b4,n4,d4,e,h,g1.less hb,g2.less hb,g3.less hb,g4.less hb⟩
theorem PodRB.kept {B:Nat} {w w':World} {v:Value} {n:Pd} (h:PodRB B w v n) (k:Kept w w'):PodRB B w' v n:=by
 obtain⟨b1,n1,d1,b2,n2,d2,b3,n3,d3,b4,n4,d4,e,h,g1,g2,g3,g4⟩:=h;exact⟨b1,n1,d1,b2,n2,d2,b3,n3,d3,b4,n4,d4,e,h.kept k,g1,g2,g3,g4⟩
theorem PodAt.spelt {w:World} {v1 v2 v3 v4:Value} {n:Pd} (h:PodAt w v1 v2 v3 v4 n):∃b1 n1 d1 b2 n2 d2 b3 n3 d3 b4 n4 d4,v1=.slice b1 n1 d1∧v2=.slice b2 n2 d2∧v3=.slice b3 n3 d3∧v4=.slice b4 n4 d4:=by
 obtain⟨a1,c1,e1,_⟩:=h.need;obtain⟨a2,c2,e2,_⟩:=h.labels;obtain⟨a3,c3,e3,_⟩:=h.sel;obtain⟨a4,c4,e4,_⟩:=h.tols;exact⟨_,_,_,_,_,_,_,_,_,_,_,_,e1,e2,e3,e4⟩
def PodsAt (w:World) (a:Option Addr) (len:Nat) (l:List Pd):Prop :=
 l.length=len∧len≤maxLen∧(len=0∨∃b off,a=some ⟨b,off,none⟩∧b<w.heap.size∧∀i n,l[i]?=some n→∃v1 v2 v3 v4,
  w.cell? ⟨b,off+i*11,none⟩=some (.string n.name)∧w.cell? ⟨b,off+i*11+1,none⟩=some (.string n.owner)∧w.cell? ⟨b,off+i*11+2,none⟩=some (.int .i64 n.prio)∧w.cell? ⟨b,off+i*11+3,none⟩=some (v1)∧w.cell? ⟨b,off+i*11+4,none⟩=some (v2)∧w.cell? ⟨b,off+i*11+5,none⟩=some (v3)∧w.cell? ⟨b,off+i*11+6,none⟩=some (v4)∧w.cell? ⟨b,off+i*11+7,none⟩=some (.string n.key)∧w.cell? ⟨b,off+i*11+8,none⟩=some (.int .i64 n.most)∧w.cell? ⟨b,off+i*11+9,none⟩=some (.string n.node)∧w.cell? ⟨b,off+i*11+10,none⟩=some (.bool n.hold)∧PodAt w v1 v2 v3 v4 n)
theorem PodsAt.kept {w w':World} {a:Option Addr} {len:Nat} {l:List Pd} (h:PodsAt w a len l) (k:Kept w w'):PodsAt w' a len l:=by
 obtain⟨h0,h1,h2⟩:=h;refine⟨h0,h1,h2.imp id ?_⟩;rintro ⟨b,off,rfl,hb,hc⟩;refine⟨b,off,rfl,Nat.lt_of_lt_of_le hb k.size,fun i n hi=>?_⟩;obtain⟨v1,v2,v3,v4,p0,p1,p2,p3,p4,p5,p6,p7,p8,p9,p10,hn⟩:=hc i n hi;exact⟨v1,v2,v3,v4,cell_later k p0,cell_later k p1,cell_later k p2,cell_later k p3,cell_later k p4,cell_later k p5,cell_later k p6,cell_later k p7,cell_later k p8,cell_later k p9,cell_later k p10,hn.kept k⟩
theorem PodsAt.form {w:World} {a:Option Addr} {len:Nat} {l:List Pd} (h:PodsAt w a len l):len=0∨∃b off,a=some ⟨b,off,none⟩:=by
 obtain⟨_,_,h2⟩:=h;exact h2.imp id fun ⟨b,off,e,_⟩=>⟨b,off,e⟩
theorem PodsAt.at_ {w:World} {b off len:Nat} {l:List Pd} {k:Nat} (h:PodsAt w (some ⟨b,off,none⟩) len l) (hk:k<len):∃n a1 m1 c1 a2 m2 c2 a3 m3 c3 a4 m4 c4,l[k]?=some n∧l.drop k=n::l.drop (k+1)∧b<w.heap.size ∧
 w.cell? ⟨b,off+k*11,none⟩=some (.string n.name)∧w.cell? ⟨b,off+k*11+1,none⟩=some (.string n.owner)∧w.cell? ⟨b,off+k*11+2,none⟩=some (.int .i64 n.prio)∧w.cell? ⟨b,off+k*11+3,none⟩=some (.slice a1 m1 c1)∧w.cell? ⟨b,off+k*11+4,none⟩=some (.slice a2 m2 c2)∧w.cell? ⟨b,off+k*11+5,none⟩=some (.slice a3 m3 c3)∧w.cell? ⟨b,off+k*11+6,none⟩=some (.slice a4 m4 c4)∧w.cell? ⟨b,off+k*11+7,none⟩=some (.string n.key)∧w.cell? ⟨b,off+k*11+8,none⟩=some (.int .i64 n.most)∧w.cell? ⟨b,off+k*11+9,none⟩=some (.string n.node)∧w.cell? ⟨b,off+k*11+10,none⟩=some (.bool n.hold)∧PodAt w (.slice a1 m1 c1) (.slice a2 m2 c2) (.slice a3 m3 c3) (.slice a4 m4 c4) n:=by
 obtain⟨h0,_,h3⟩:=h;have hkl:k<l.length:=by omega
 rcases h3 with h3 | ⟨b',off',e,hb,hc⟩
 · omega
 · injection e with e;injection e with e1 e2 e3;subst e1;subst e2;have he:l[k]?=some l[k]:=List.getElem?_eq_getElem hkl;obtain⟨v1,v2,v3,v4,r⟩:=hc k _ he;obtain⟨a1,m1,c1,a2,m2,c2,a3,m3,c3,a4,m4,c4,rfl,rfl,rfl,rfl⟩:=PodAt.spelt r.2.2.2.2.2.2.2.2.2.2.2;exact⟨l[k],a1,m1,c1,a2,m2,c2,a3,m3,c3,a4,m4,c4,he,List.drop_eq_getElem_cons hkl,hb,r⟩
def PodsR (w:World) (v:Value) (l:List Pd):Prop:=∃a cap,v=.slice a l.length cap∧l.length≤cap∧cap≤maxLen∧PodsAt w a l.length l
theorem PodsR.kept {w w':World} {v:Value} {l:List Pd} (h:PodsR w v l) (k:Kept w w'):PodsR w' v l:=by
 obtain⟨a,cap,e,h1,h2,h3⟩:=h;exact⟨a,cap,e,h1,h2,h3.kept k⟩
structure Bd where
 name:ByteArray
 sel:TL
 floor:Int
def Bd.zero:Bd:=⟨ByteArray.empty,[],0⟩
abbrev BudV (n:Bd) (v1:Value):Value:=.agg #[.string n.name,v1,.int .i64 n.floor]
structure BudAt (w:World) (v1:Value) (n:Bd):Prop where
 name:n.name.size≤maxLen
 floor:-9223372036854775808≤n.floor∧n.floor≤9223372036854775807
 sel:Reads TermLay w v1 n.sel
theorem BudAt.kept {w w':World} {v1:Value} {n:Bd} (h:BudAt w v1 n) (k:Kept w w'):BudAt w' v1 n:=⟨h.name,h.floor,h.sel.kept k⟩
def BudR (w:World) (v:Value) (n:Bd):Prop:=∃v1,v=BudV n v1∧BudAt w v1 n
theorem BudR.kept {w w':World} {v:Value} {n:Bd} (h:BudR w v n) (k:Kept w w'):BudR w' v n:=by
 obtain⟨v1,e,h⟩:=h;exact⟨v1,e,h.kept k⟩
def BudRB (B:Nat) (w:World) (v:Value) (n:Bd):Prop:=∃b1 n1 d1,v=BudV n (.slice b1 n1 d1)∧BudAt w (.slice b1 n1 d1) n∧Behind B b1
theorem BudRB.toR {B:Nat} {w:World} {v:Value} {n:Bd} (h:BudRB B w v n):BudR w v n:=by
 obtain⟨b1,n1,d1,e,h,-⟩:=h;exact⟨_,e,h⟩
theorem BudAt.far {B:Nat} {w w':World} {n:Bd} {b1:Option Addr} {n1 d1:Nat} (h:BudAt w (.slice b1 n1 d1) n) (hs:w'.heap.size=w.heap.size) (hb:∀b,B≤b→w'.heap[b]?=w.heap[b]?) (g1:Behind B b1):BudAt w' (.slice b1 n1 d1) n :=
 ⟨h.name,h.floor,h.sel.far hs (fun b o s e=>hb b (g1 b o s e))⟩
theorem BudRB.far {B:Nat} {w w':World} {v:Value} {n:Bd} (h:BudRB B w v n) (hs:w'.heap.size=w.heap.size) (hb:∀b,B≤b→w'.heap[b]?=w.heap[b]?):BudRB B w' v n:=by
 obtain⟨b1,n1,d1,e,h,g1⟩:=h;exact⟨b1,n1,d1,e,h.far hs hb g1,g1⟩
theorem BudRB.less {B B':Nat} {w:World} {v:Value} {n:Bd} (h:BudRB B w v n) (hb:B'≤B):BudRB B' w v n:=by
 obtain⟨b1,n1,d1,e,h,g1⟩:=h;exact⟨b1,n1,d1,e,h,g1.less hb⟩
theorem BudRB.kept {B:Nat} {w w':World} {v:Value} {n:Bd} (h:BudRB B w v n) (k:Kept w w'):BudRB B w' v n:=by
 obtain⟨b1,n1,d1,e,h,g1⟩:=h;exact⟨b1,n1,d1,e,h.kept k,g1⟩
theorem BudAt.spelt {w:World} {v1:Value} {n:Bd} (h:BudAt w v1 n):∃b1 n1 d1,v1=.slice b1 n1 d1:=by
 obtain⟨a,c,e,-⟩:=h.sel;exact⟨_,_,_,e⟩
def BudsAt (w:World) (a:Option Addr) (len:Nat) (l:List Bd):Prop :=
 l.length=len∧len≤maxLen∧(len=0∨∃b off,a=some ⟨b,off,none⟩∧b<w.heap.size∧∀i n,l[i]?=some n→∃v1,
  w.cell? ⟨b,off+i*3,none⟩=some (.string n.name)∧w.cell? ⟨b,off+i*3+1,none⟩=some (v1)∧w.cell? ⟨b,off+i*3+2,none⟩=some (.int .i64 n.floor)∧BudAt w v1 n)
theorem BudsAt.kept {w w':World} {a:Option Addr} {len:Nat} {l:List Bd} (h:BudsAt w a len l) (k:Kept w w'):BudsAt w' a len l:=by
 obtain⟨h0,h1,h2⟩:=h;refine⟨h0,h1,h2.imp id ?_⟩;rintro ⟨b,off,rfl,hb,hc⟩;refine⟨b,off,rfl,Nat.lt_of_lt_of_le hb k.size,fun i n hi=>?_⟩;obtain⟨v1,p0,p1,p2,hn⟩:=hc i n hi;exact⟨v1,cell_later k p0,cell_later k p1,cell_later k p2,hn.kept k⟩
theorem BudsAt.form {w:World} {a:Option Addr} {len:Nat} {l:List Bd} (h:BudsAt w a len l):len=0∨∃b off,a=some ⟨b,off,none⟩:=by
 obtain⟨_,_,h2⟩:=h;exact h2.imp id fun ⟨b,off,e,_⟩=>⟨b,off,e⟩
theorem BudsAt.at_ {w:World} {b off len:Nat} {l:List Bd} {k:Nat} (h:BudsAt w (some ⟨b,off,none⟩) len l) (hk:k<len):∃n a1 m1 c1,l[k]?=some n∧l.drop k=n::l.drop (k+1)∧b<w.heap.size ∧
 w.cell? ⟨b,off+k*3,none⟩=some (.string n.name)∧w.cell? ⟨b,off+k*3+1,none⟩=some (.slice a1 m1 c1)∧w.cell? ⟨b,off+k*3+2,none⟩=some (.int .i64 n.floor)∧BudAt w (.slice a1 m1 c1) n:=by
 obtain⟨h0,_,h3⟩:=h;have hkl:k<l.length:=by omega
 rcases h3 with h3 | ⟨b',off',e,hb,hc⟩
 · omega
 · injection e with e;injection e with e1 e2 e3;subst e1;subst e2;have he:l[k]?=some l[k]:=List.getElem?_eq_getElem hkl;obtain⟨v1,r⟩:=hc k _ he;obtain⟨a1,m1,c1,rfl⟩:=BudAt.spelt r.2.2.2;exact⟨l[k],a1,m1,c1,he,List.drop_eq_getElem_cons hkl,hb,r⟩
def BudsR (w:World) (v:Value) (l:List Bd):Prop:=∃a cap,v=.slice a l.length cap∧l.length≤cap∧cap≤maxLen∧BudsAt w a l.length l
theorem BudsR.kept {w w':World} {v:Value} {l:List Bd} (h:BudsR w v l) (k:Kept w w'):BudsR w' v l:=by
 obtain⟨a,cap,e,h1,h2,h3⟩:=h;exact⟨a,cap,e,h1,h2,h3.kept k⟩
structure Clu where
 nodes:List Nod
 pods:List Pd
 buds:List Bd
abbrev CluV (v1 v2 v3:Value):Value:=.agg #[v1,v2,v3]
structure CluAt (w:World) (v1 v2 v3:Value) (s:Clu):Prop where
 nodes:NodesR w v1 s.nodes
 pods:PodsR w v2 s.pods
 buds:BudsR w v3 s.buds
theorem CluAt.kept {w w':World} {v1 v2 v3:Value} {s:Clu} (h:CluAt w v1 v2 v3 s) (k:Kept w w'):CluAt w' v1 v2 v3 s:=⟨h.nodes.kept k,h.pods.kept k,h.buds.kept k⟩
def CluR (w:World) (v:Value) (s:Clu):Prop:=∃v1 v2 v3,v=CluV v1 v2 v3∧CluAt w v1 v2 v3 s
theorem CluR.kept {w w':World} {v:Value} {s:Clu} (h:CluR w v s) (k:Kept w w'):CluR w' v s:=by
 obtain⟨v1,v2,v3,e,h⟩:=h;exact⟨v1,v2,v3,e,h.kept k⟩
def besideB (p q:Pd):Bool:=!isNo p.owner&&(eqS q.owner p.owner&&(!q.hold&&!eqS q.name p.name))
def onN (p:Pd) (x:ByteArray):List Pd→Nat
 | []=>0
 | q::t=>(if besideB p q=true∧q.node=x then 1 else 0)+onN p x t
theorem onN_le (p:Pd) (x:ByteArray):∀l:List Pd,onN p x l≤l.length
 | []=>Nat.zero_le _
 | q::t=>by
  have:=onN_le p x t;unfold onN;simp only[List.length_cons];split<;>omega
def inD (p:Pd) (pods:List Pd) (d:ByteArray):List Nod→Nat
 | []=>0
 | n::t=>(if getS n.labels p.key=some d then onN p n.name pods else 0)+inD p pods d t
theorem inD_le (p:Pd) (pods:List Pd) (d:ByteArray):∀l:List Nod,inD p pods d l≤l.length*pods.length
 | []=>Nat.zero_le _
 | n::t=>by
  have h1:=inD_le p pods d t;have h2:=onN_le p n.name pods;unfold inD;simp only[List.length_cons,Nat.add_mul];split<;>omega
def hasD (k d:ByteArray) (l:List Nod):Bool:=l.any fun n=>decide (getS n.labels k=some d)
theorem onN_app (p:Pd) (x:ByteArray):∀(a b:List Pd),onN p x (a++b)=onN p x a+onN p x b
 | [],b=>by simp[onN]
 | q::t,b=>by
  have:=onN_app p x t b;simp only[List.cons_append,onN,this];omega
theorem inD_app (p:Pd) (pods:List Pd) (d:ByteArray):∀(a b:List Nod),inD p pods d (a++b)=inD p pods d a+inD p pods d b
 | [],b=>by simp[inD]
 | q::t,b=>by
  have:=inD_app p pods d t b;simp only[List.cons_append,inD,this];omega
def domV (key name:ByteArray):List Nod→Option ByteArray
 | []=>none
 | n::t=>if eqS n.name name=true then getS n.labels key else domV key name t
def leastD (p:Pd) (pods:List Pd) (nodes:List Nod) (d:ByteArray):List Nod→Nat→Nat
 | [],m=>m
 | n::t,m=>leastD p pods nodes d t (match getS n.labels p.key with
  | none=>m
  | some e=>min m (inD p pods e nodes+(if e=d then 1 else 0)))
def skewD (p:Pd) (s:Clu) (d:ByteArray):Int:=((inD p s.pods d s.nodes+1:Nat):Int)-(leastD p s.pods s.nodes d s.nodes (inD p s.pods d s.nodes+1):Int)
def skewS (p:Pd) (s:Clu) (name:ByteArray):Int×Bool :=
 if isNo p.key=true then (0,true) else match domV p.key name s.nodes with
  | none=>(0,false)
  | some d=>(skewD p s d,true)
def badP (s:Clu) (p:Pd):Bool:=if isNo p.node=true∨isNo p.key=true then false else (!(skewS p s p.node).2||decide (p.most<(skewS p s p.node).1))
def badS (s:Clu):List ByteArray:=(s.pods.filter fun p=>badP s p).map fun p=>p.name
theorem leastD_spec (p:Pd) (pods:List Pd) (nodes:List Nod) (d:ByteArray):∀(l:List Nod) (m:Nat),
 leastD p pods nodes d l m≤m∧(∀n ∈ l,∀e,getS n.labels p.key=some e→leastD p pods nodes d l m≤inD p pods e nodes+(if e=d then 1 else 0)) ∧
 (leastD p pods nodes d l m=m∨∃n ∈ l,∃e,getS n.labels p.key=some e∧leastD p pods nodes d l m=inD p pods e nodes+(if e=d then 1 else 0))
 | [],m=>⟨Nat.le_refl _,fun n h=>absurd h (by simp),.inl rfl⟩
 | n::t,m=>by
  rw[leastD]
  cases h:getS n.labels p.key with
  | none =>
   dsimp only;obtain⟨h1,h2,h3⟩:=leastD_spec p pods nodes d t m;refine⟨h1,fun x hx e he=>?_,h3.imp id fun ⟨x,hx,e,he⟩=>⟨x,by simp[hx],e,he⟩⟩;rcases List.mem_cons.1 hx with rfl | hx
   · rw[h] at he;cases he
   · exact h2 x hx e he
  | some c =>
   dsimp only;obtain⟨h1,h2,h3⟩:=leastD_spec p pods nodes d t (min m (inD p pods c nodes+(if c=d then 1 else 0)));refine⟨Nat.le_trans h1 (Nat.min_le_left _ _),fun x hx e he=>?_,?_⟩
   · rcases List.mem_cons.1 hx with rfl | hx
     · rw[h] at he;cases he;exact Nat.le_trans h1 (Nat.min_le_right _ _)
     · exact h2 x hx e he
   · rcases h3 with h3 | ⟨x,hx,e,he,h3⟩
     · by_cases g:m≤inD p pods c nodes+(if c=d then 1 else 0)
       · exact .inl (by rw[h3,Nat.min_eq_left g])
       · exact .inr ⟨n,by simp,c,h,by rw[h3,Nat.min_eq_right (by omega)]⟩
     · exact .inr ⟨x,by simp[hx],e,he,h3⟩
theorem leastD_is {p:Pd} {pods:List Pd} {nodes:List Nod} {d:ByteArray} {m z:Nat} (hd:hasD p.key d nodes=true) (hm:m=inD p pods d nodes+1)
 (h1:∀e,hasD p.key e nodes=true→z≤inD p pods e nodes+(if e=d then 1 else 0)) (h2:∃e,hasD p.key e nodes=true∧z=inD p pods e nodes+(if e=d then 1 else 0)):leastD p pods nodes d nodes m=z:=by
 have has:∀{n:Nod} {e:ByteArray},n ∈ nodes→getS n.labels p.key=some e→hasD p.key e nodes=true:=fun {n e} hn he=>by
  unfold hasD;rw[List.any_eq_true];exact⟨n,hn,by simpa using he⟩
 have un:∀{e:ByteArray},hasD p.key e nodes=true→∃n ∈ nodes,getS n.labels p.key=some e:=fun {e} h=>by
  unfold hasD at h;rw[List.any_eq_true] at h;obtain⟨n,hn,he⟩:=h;exact⟨n,hn,by simpa using he⟩
 obtain⟨g1,g2,g3⟩:=leastD_spec p pods nodes d nodes m;obtain⟨e,he,hz⟩:=h2;obtain⟨n,hn,hne⟩:=un he;have a:=g2 n hn e hne;rcases g3 with g3 | ⟨x,hx,c,hc,g3⟩
 · have b:=h1 d hd;rw[if_pos rfl] at b;omega
 · have b:=h1 c (has hx hc);omega
theorem domV_has {key name d:ByteArray}:∀{l:List Nod},domV key name l=some d→hasD key d l=true
 | n::t,h=>by
  rw[domV] at h;unfold hasD;rw[List.any_cons];split at h
  · rw[h];simp
  · have:=domV_has h;unfold hasD at this;rw[this,Bool.or_true]
def PodRes (c:Int) (n:Pd) (w:World) (e:Ending) (w':World):Prop:=(c=0→∃v,e=.returned v∧PodRB w.heap.size w' v n)∧(c≠0→e=.panicked [perr c])∧Kept w w'
theorem PodRes.bad {c:Int} {n:Pd} {w w':World} (hc:c≠0) (hb:Kept w w'):PodRes c n w (.panicked [perr c]) w':=⟨fun g=>absurd g hc,fun _=>rfl,hb⟩
abbrev SX:=Option Addr×Nat×Nat
abbrev NX:=Nod×SX×SX×SX
abbrev slV (x:SX):Value:=.slice x.1 x.2.1 x.2.2
def At3 (w:World) (z:NX):Prop:=NodAt w (slV z.2.1) (slV z.2.2.1) (slV z.2.2.2) z.1
abbrev PX:=Pd×SX×SX×SX×SX
def At4 (w:World) (z:PX):Prop:=PodAt w (slV z.2.1) (slV z.2.2.1) (slV z.2.2.2.1) (slV z.2.2.2.2) z.1
def Btw (lo hi:Nat) (a:Option Addr):Prop:=∀b off sp,a=some ⟨b,off,sp⟩→lo≤b∧b<hi
theorem Btw.behind {lo hi:Nat} {a:Option Addr} (h:Btw lo hi a):Behind lo a:=fun b o s e=>(h b o s e).1
theorem Reads.grown {α:Type} {L:Lay α} {w w':World} {row:Option Nat} {a:Option Addr} {m c:Nat} {l:List α} (h:Reads L w (.slice a m c) l) (hg:w.grownBy w' row) (hb:∀b off sp,a=some ⟨b,off,sp⟩→some b≠row):Reads L w' (.slice a m c) l:=by
 obtain⟨a',cap',e,h1,h2,h3,h4,h5,h6⟩:=h
 cases e
 refine⟨a,c,rfl,h1,h2,h3,h4,h5,h6.imp id ?_⟩;rintro ⟨b,off,rfl,hlt,hc⟩;exact⟨b,off,rfl,Nat.lt_of_lt_of_le hlt hg.size,fun i x j u hi hj=>(World.cell?_of_block (a:=⟨b,off+i*L.m+j,none⟩) (hg.block b hlt (hb b off none rfl))).trans (hc i x j u hi hj)⟩
theorem Vec.Reads.grown {w w':World} {row:Option Nat} {a:Option Addr} {m c:Nat} {l:Vec.V} (h:Vec.Reads w (.slice a m c) l) (hg:w.grownBy w' row) (hb:∀b off sp,a=some ⟨b,off,sp⟩→some b≠row):Vec.Reads w' (.slice a m c) l:=by
 obtain⟨a',cap',e,h1,h2,h3,h4,h5,h6⟩:=h
 cases e
 refine⟨a,c,rfl,h1,h2,h3,h4,h5,h6.imp id ?_⟩;rintro ⟨b,off,rfl,hlt,hc⟩;exact⟨b,off,rfl,Nat.lt_of_lt_of_le hlt hg.size,fun i hi=>⟨(World.cell?_of_block (a:=⟨b,off+i*2,none⟩) (hg.block b hlt (hb b off none rfl))).trans (hc i hi).1,(World.cell?_of_block (a:=⟨b,off+i*2+1,none⟩) (hg.block b hlt (hb b off none rfl))).trans (hc i hi).2⟩⟩
theorem one_node0 (x:NX) (u:Value) (h:u ∈ [Value.string x.1.name,slV x.2.1,slV x.2.2.1,slV x.2.2.2,.bool x.1.cordon]):u.oneCell'=true:=by
 simp only[List.mem_cons,List.not_mem_nil,or_false] at h;rcases h with rfl | rfl | rfl | rfl | rfl<;>rfl
def NodLay0:Lay NX:={ m:=5,cs:=fun x=>[.string x.1.name,slV x.2.1,slV x.2.2.1,slV x.2.2.2,.bool x.1.cordon],fine:=fun _=>True,len:=fun _=>rfl,one:=one_node0,pos:=by decide }
theorem nodes_own {w:World} {T:TypeId} {B:Nat} {v:Value} {lx:List NX} (ho:Own NodLay0 T w B v lx) (hf:∀z ∈ lx,At3 w z):NodesR w v (lx.map fun z=>z.1):=by
 obtain⟨a,cap,rfl,h1,h2,h3⟩:=ho.at_;obtain⟨g0,g1,g2,g3⟩:=h3;refine⟨a,cap,by rw[List.length_map],by rw[List.length_map];exact h1,h2,rfl,by rw[List.length_map];exact g1,?_⟩;rw[List.length_map];rcases g3 with g3 | ⟨b,off,rfl,hb,hc⟩
 · exact .inl g3
 · refine .inr ⟨b,off,rfl,hb,fun i n hi=>?_⟩;rw[List.getElem?_map] at hi;obtain⟨z,hz,rfl⟩:=Option.map_eq_some_iff.1 hi;exact⟨_,_,_,_,_,_,_,_,_,hc i z 0 _ hz rfl,hc i z 1 _ hz rfl,hc i z 2 _ hz rfl,hc i z 3 _ hz rfl,hc i z 4 _ hz rfl,hf z (List.mem_of_getElem? hz)⟩
theorem one_pod0 (x:PX) (u:Value) (h:u ∈ [Value.string x.1.name,.string x.1.owner,.int .i64 x.1.prio,slV x.2.1,slV x.2.2.1,slV x.2.2.2.1,slV x.2.2.2.2,.string x.1.key,.int .i64 x.1.most,.string x.1.node,.bool x.1.hold]):u.oneCell'=true:=by
 simp only[List.mem_cons,List.not_mem_nil,or_false] at h;rcases h with rfl | rfl | rfl | rfl | rfl | rfl | rfl | rfl | rfl | rfl | rfl<;>rfl
def PodLay0:Lay PX:={ m:=11,cs:=fun x=>[.string x.1.name,.string x.1.owner,.int .i64 x.1.prio,slV x.2.1,slV x.2.2.1,slV x.2.2.2.1,slV x.2.2.2.2,.string x.1.key,.int .i64 x.1.most,.string x.1.node,.bool x.1.hold],fine:=fun _=>True,len:=fun _=>rfl,one:=one_pod0,pos:=by decide }
theorem pods_own {w:World} {T:TypeId} {B:Nat} {v:Value} {lx:List PX} (ho:Own PodLay0 T w B v lx) (hf:∀z ∈ lx,At4 w z):PodsR w v (lx.map fun z=>z.1):=by
 obtain⟨a,cap,rfl,h1,h2,h3⟩:=ho.at_;obtain⟨g0,g1,g2,g3⟩:=h3;refine⟨a,cap,by rw[List.length_map],by rw[List.length_map];exact h1,h2,rfl,by rw[List.length_map];exact g1,?_⟩;rw[List.length_map];rcases g3 with g3 | ⟨b,off,rfl,hb,hc⟩
 · exact .inl g3
 · refine .inr ⟨b,off,rfl,hb,fun i n hi=>?_⟩;rw[List.getElem?_map] at hi;obtain⟨z,hz,rfl⟩:=Option.map_eq_some_iff.1 hi;exact⟨slV z.2.1,slV z.2.2.1,slV z.2.2.2.1,slV z.2.2.2.2,hc i z 0 _ hz rfl,hc i z 1 _ hz rfl,hc i z 2 _ hz rfl,hc i z 3 _ hz rfl,hc i z 4 _ hz rfl,hc i z 5 _ hz rfl,hc i z 6 _ hz rfl,hc i z 7 _ hz rfl,hc i z 8 _ hz rfl,hc i z 9 _ hz rfl,hc i z 10 _ hz rfl,hf z (List.mem_of_getElem? hz)⟩
def BudRes (c:Int) (n:Bd) (w:World) (e:Ending) (w':World):Prop:=(c=0→∃v,e=.returned v∧BudRB w.heap.size w' v n)∧(c≠0→e=.panicked [perr c])∧Kept w w'
theorem BudRes.bad {c:Int} {n:Bd} {w w':World} (hc:c≠0) (hb:Kept w w'):BudRes c n w (.panicked [perr c]) w':=⟨fun g=>absurd g hc,fun _=>rfl,hb⟩
abbrev BX:=Bd×SX
def At1 (w:World) (z:BX):Prop:=BudAt w (slV z.2) z.1
theorem one_bud0 (x:BX) (u:Value) (h:u ∈ [Value.string x.1.name,slV x.2,.int .i64 x.1.floor]):u.oneCell'=true:=by
 simp only[List.mem_cons,List.not_mem_nil,or_false] at h;rcases h with rfl | rfl | rfl<;>rfl
def BudLay0:Lay BX:={ m:=3,cs:=fun x=>[.string x.1.name,slV x.2,.int .i64 x.1.floor],fine:=fun _=>True,len:=fun _=>rfl,one:=one_bud0,pos:=by decide }
theorem buds_own {w:World} {T:TypeId} {B:Nat} {v:Value} {lx:List BX} (ho:Own BudLay0 T w B v lx) (hf:∀z ∈ lx,At1 w z):BudsR w v (lx.map fun z=>z.1):=by
 obtain⟨a,cap,rfl,h1,h2,h3⟩:=ho.at_;obtain⟨g0,g1,g2,g3⟩:=h3;refine⟨a,cap,by rw[List.length_map],by rw[List.length_map];exact h1,h2,rfl,by rw[List.length_map];exact g1,?_⟩;rw[List.length_map];rcases g3 with g3 | ⟨b,off,rfl,hb,hc⟩
 · exact .inl g3
 · refine .inr ⟨b,off,rfl,hb,fun i n hi=>?_⟩;rw[List.getElem?_map] at hi;obtain⟨z,hz,rfl⟩:=Option.map_eq_some_iff.1 hi;exact⟨slV z.2,hc i z 0 _ hz rfl,hc i z 1 _ hz rfl,hc i z 2 _ hz rfl,hf z (List.mem_of_getElem? hz)⟩
structure GOff (S:Nat→Prop) (w w':World):Prop where
 os:w'.os=w.os
 tape:w'.tape=w.tape
 output:w'.output=w.output
 size:w.heap.size≤w'.heap.size
 block:∀k,k<w.heap.size→¬S k→w'.heap[k]?=w.heap[k]?
theorem GOff.trans {S:Nat→Prop} {a b c:World} (h:GOff S a b) (k:GOff S b c):GOff S a c :=
 ⟨k.os.trans h.os,k.tape.trans h.tape,k.output.trans h.output,Nat.le_trans h.size k.size,fun i hi hs=>(k.block i (Nat.lt_of_lt_of_le hi h.size) hs).trans (h.block i hi hs)⟩
theorem GOff.mono {S S':Nat→Prop} {a b:World} (h:GOff S a b) (hs:∀k,S k→S' k):GOff S' a b:=⟨h.os,h.tape,h.output,h.size,fun i hi hn=>h.block i hi fun e=>hn (hs i e)⟩
theorem GOff.of {S:Nat→Prop} {a b:World} (k:Kept a b):GOff S a b:=⟨k.os,k.tape,k.output,k.size,fun i hi _=>k.block i hi⟩
theorem GOff.below {S:Nat→Prop} {a b c:World} (k:Kept a b) (h:GOff S b c) (hs:∀i,S i→a.heap.size≤i):Kept a c :=
 ⟨h.os.trans k.os,h.tape.trans k.tape,h.output.trans k.output,Nat.le_trans k.size h.size,fun i hi=>(h.block i (Nat.lt_of_lt_of_le hi k.size) fun e=>by have:=hs i e;omega).trans (k.block i hi)⟩
theorem GOff.cell {S:Nat→Prop} {a:World} (g i:Nat) (u:Value) (hg:S g):GOff S a (a.setCell ⟨g,i,none⟩ u) :=
 ⟨rfl,rfl,rfl,by simp[World.setCell],fun k _ hn=>Below.heap_setCell a ⟨g,i,none⟩ u k (fun e=>hn (by rw[show k=g from e];exact hg))⟩
theorem GOff.cells {S:Nat→Prop} (g:Nat) (hg:S g):∀(vs:List Value) (o:Nat) (a:World),GOff S a (a.setCells g o vs)
 | [],_,a=>GOff.of (Kept.refl a)
 | v::r,o,a=>by rw[World.setCells];exact(GOff.cell g o v hg).trans (GOff.cells g hg r (o+1) _)
theorem GOff.grown {S:Nat→Prop} {a b:World} {o:Option Nat} (h:a.grownBy b o) (hs:∀k,o=some k→S k):GOff S a b :=
 ⟨h.os,h.tape,h.output,h.size,fun i hi hn=>h.block i hi fun e=>hn (hs i e.symm)⟩
theorem GOff.drew {S:Nat→Prop} (a:World):GOff S a a.drew:=GOff.of (Kept.drew a)
def Off (S:Nat→Prop) (w:World) (Φ:World→Prop):Prop:=∀w',GOff S w w'→Φ w'
theorem Off.here {S:Nat→Prop} {w:World} {Φ:World→Prop} (h:Off S w Φ):Φ w:=h w (GOff.of (Kept.refl w))
theorem Off.step {S:Nat→Prop} {w w':World} {Φ:World→Prop} (h:Off S w Φ) (g:GOff S w w'):Off S w' Φ:=fun u k=>h u (g.trans k)
theorem Off.less {S S':Nat→Prop} {w:World} {Φ:World→Prop} (h:Off S w Φ) (hs:∀k,S' k→S k):Off S' w Φ:=fun u k=>h u (k.mono hs)
theorem Off.imp {S:Nat→Prop} {w:World} {Φ Ψ:World→Prop} (h:Off S w Φ) (f:∀u,Φ u→Ψ u):Off S w Ψ:=fun u k=>f u (h u k)
theorem Off.of {S:Nat→Prop} {a w:World} {Φ:World→Prop} (h:∀u,Kept a u→Φ u) (k:Kept a w) (hs:∀i,S i→a.heap.size≤i):Off S w Φ:=fun u g=>h u (g.below k hs)
theorem Off.new {S S':Nat→Prop} {w w':World} {Φ:World→Prop} (h:Off S w Φ) (g:GOff S w w') (hs:∀k,S' k→S k∨w.heap.size≤k):Off S' w' Φ:=fun u k =>
 h u ⟨k.os.trans g.os,k.tape.trans g.tape,k.output.trans g.output,Nat.le_trans g.size k.size,fun i hi hn=>(k.block i (Nat.lt_of_lt_of_le hi g.size) fun e=>by rcases hs i e with e | e;exact hn e;omega).trans (g.block i hi hn)⟩
theorem notS {S:Nat→Prop} {o:Option Addr} {B:Nat} (hb:Behind B o) (hs:∀k,B≤k→¬S k):∀b off sp,o=some ⟨b,off,sp⟩→¬S b:=fun b off sp e=>hs b (hb b off sp e)
theorem RowAt.goff {α:Type} {L:Lay α} {S:Nat→Prop} {w w':World} {a:Option Addr} {len:Nat} {l:List α} (h:RowAt L w a len l) (g:GOff S w w') (hn:∀b off sp,a=some ⟨b,off,sp⟩→¬S b):RowAt L w' a len l:=by
 obtain⟨h0,h1,h2,h3⟩:=h;refine⟨h0,h1,h2,h3.imp id ?_⟩;rintro ⟨b,off,ha,hb,hc⟩;exact⟨b,off,ha,Nat.lt_of_lt_of_le hb g.size,fun i x j u hi hj=>(World.cell?_of_block (w:=w) (g.block b hb (hn b off none ha))).trans (hc i x j u hi hj)⟩
theorem Reads.goff {α:Type} {L:Lay α} {S:Nat→Prop} {w w':World} {a:Option Addr} {m c:Nat} {l:List α} (h:Reads L w (.slice a m c) l) (g:GOff S w w') (hn:∀b off sp,a=some ⟨b,off,sp⟩→¬S b):Reads L w' (.slice a m c) l:=by
 obtain⟨a',c',e,h1,h2,h3⟩:=h
 cases e
 exact⟨a,c,rfl,h1,h2,h3.goff g hn⟩
theorem Vec.VecAt.goff {S:Nat→Prop} {w w':World} {a:Option Addr} {len:Nat} {l:Vec.V} (h:Vec.VecAt w a len l) (g:GOff S w w') (hn:∀b off sp,a=some ⟨b,off,sp⟩→¬S b):Vec.VecAt w' a len l:=by
 obtain⟨h0,h1,h2,h3⟩:=h;refine⟨h0,h1,h2,h3.imp id ?_⟩;rintro ⟨b,off,ha,hb,hc⟩;refine⟨b,off,ha,Nat.lt_of_lt_of_le hb g.size,fun i hi=>?_⟩;have e:∀j,w'.cell? ⟨b,j,none⟩=w.cell? ⟨b,j,none⟩:=fun j=>World.cell?_of_block (a:=⟨b,j,none⟩) (g.block b hb (hn b off none ha));rw[e,e];exact hc i hi
theorem Vec.Reads.goff {S:Nat→Prop} {w w':World} {a:Option Addr} {m c:Nat} {l:Vec.V} (h:Vec.Reads w (.slice a m c) l) (g:GOff S w w') (hn:∀b off sp,a=some ⟨b,off,sp⟩→¬S b):Vec.Reads w' (.slice a m c) l:=by
 obtain⟨a',c',e,h1,h2,h3⟩:=h
 cases e
 exact⟨a,c,rfl,h1,h2,Vec.VecAt.goff h3 g hn⟩
theorem PodAt.off {S:Nat→Prop} {B:Nat} {w:World} {n:Pd} {b1 b2 b3 b4:Option Addr} {n1 d1 n2 d2 n3 d3 n4 d4:Nat} (h:PodAt w (.slice b1 n1 d1) (.slice b2 n2 d2) (.slice b3 n3 d3) (.slice b4 n4 d4) n) (g1:Behind B b1) (g2:Behind B b2) (g3:Behind B b3) (g4:Behind B b4) (hs:∀k,B≤k→¬S k) :
 Off S w fun u=>PodAt u (.slice b1 n1 d1) (.slice b2 n2 d2) (.slice b3 n3 d3) (.slice b4 n4 d4) n:=fun u g =>
 ⟨h.name,h.owner,h.key,h.node,h.prio,h.most,h.need.goff g (notS g1 hs),h.labels.goff g (notS g2 hs),h.sel.goff g (notS g3 hs),h.tols.goff g (notS g4 hs)⟩
theorem NodAt.off {S:Nat→Prop} {B:Nat} {w:World} {n:Nod} {b1 b2 b3:Option Addr} {n1 d1 n2 d2 n3 d3:Nat} (h:NodAt w (.slice b1 n1 d1) (.slice b2 n2 d2) (.slice b3 n3 d3) n) (g1:Behind B b1) (g2:Behind B b2) (g3:Behind B b3) (hs:∀k,B≤k→¬S k) :
 Off S w fun u=>NodAt u (.slice b1 n1 d1) (.slice b2 n2 d2) (.slice b3 n3 d3) n:=fun u g =>
 ⟨h.size,h.cap.goff g (notS g1 hs),h.labels.goff g (notS g2 hs),h.taints.goff g (notS g3 hs)⟩
theorem BudAt.off {S:Nat→Prop} {B:Nat} {w:World} {n:Bd} {b1:Option Addr} {n1 d1:Nat} (h:BudAt w (.slice b1 n1 d1) n) (g1:Behind B b1) (hs:∀k,B≤k→¬S k) :
 Off S w fun u=>BudAt u (.slice b1 n1 d1) n:=fun u g=>⟨h.name,h.floor,h.sel.goff g (notS g1 hs)⟩
theorem Own.goff {α:Type} {L:Lay α} {e:TypeId} {S:Nat→Prop} {w w':World} {B:Nat} {v:Value} {l:List α} (h:Own L e w B v l) (g:GOff S w w') (hn:∀k,v.ownBlock=some k→¬S k):Own L e w' B v l:=by
 obtain⟨⟨h0,h1⟩,hf⟩:=h;refine⟨⟨h0,h1.imp id ?_⟩,hf⟩;rintro ⟨q,cap,cur,rfl,hbg,hg,hr⟩;have hlt:q<w.heap.size:=by
  rcases Nat.lt_or_ge q w.heap.size with hlt | hge
  · exact hlt
  · rw[Array.getElem?_eq_none hge] at hg;cases hg
 exact⟨q,cap,cur,rfl,hbg,(g.block q hlt (hn q rfl)).trans hg,hr⟩
structure Deep {X:Type} (L:Lay X) (T:TypeId) (At:World→X→Prop) (w:World) (B:Nat) (v:Value) (lx:List X):Prop where
 own:Own L T w B v lx
 off:∀z ∈ lx,Off (fun b=>v.ownBlock=some b) w fun u=>At u z
theorem Deep.kept {X:Type} {L:Lay X} {T:TypeId} {At:World→X→Prop} {w w':World} {B:Nat} {v:Value} {lx:List X} (h:Deep L T At w B v lx) (k:Kept w w'):Deep L T At w' B v lx:=⟨h.own.kept k,fun z hz=>(h.off z hz).step (GOff.of k)⟩
theorem Deep.less {X:Type} {L:Lay X} {T:TypeId} {At:World→X→Prop} {w:World} {B B':Nat} {v:Value} {lx:List X} (h:Deep L T At w B v lx) (hb:B'≤B):Deep L T At w B' v lx:=⟨h.own.base_le hb,h.off⟩
theorem Deep.goff {X:Type} {L:Lay X} {T:TypeId} {At:World→X→Prop} {w w':World} {B q:Nat} {v:Value} {lx:List X} (h:Deep L T At w B v lx) (g:GOff (fun b=>b=q) w w') (hq:q<B) (ha:∀z ∈ lx,Off (fun b=>v.ownBlock=some b∨b=q) w fun u=>At u z):Deep L T At w' B v lx :=
 ⟨h.own.goff g (fun k hk e=>by
  have hl:B≤k:=by
   rcases h.own.1.2 with ⟨rfl,_⟩ | ⟨q2,cap,cur,rfl,hb,_⟩
   · cases hk
   · cases hk;exact hb
  omega),fun z hz=>((ha z hz).step (g.mono fun k e=>.inr e)).less fun k e=>.inl e⟩
theorem own_lt {X:Type} {L:Lay X} {T:TypeId} {w:World} {B:Nat} {v:Value} {lx:List X} (h:Own L T w B v lx):∀g,v.ownBlock=some g→B≤g∧g<w.heap.size:=h.1.lt
theorem Own.cell_at {X:Type} {L:Lay X} {T:TypeId} {w:World} {B g n cap:Nat} {lx:List X} (h:Own L T w B (.slice (some ⟨g,0,none⟩) n cap) lx) {k:Nat} {z:X} (hz:lx[k]?=some z) {j:Nat} {u:Value} (hu:(L.cs z)[j]?=some u):w.cell? ⟨g,k*L.m+j,none⟩=some u:=by
 obtain⟨a,c,e,_,_,h3⟩:=h.at_
 cases e
 have hk:k<lx.length:=(List.getElem?_eq_some_iff.1 hz).1;obtain⟨x,hx,_,_,_,hc⟩:=h3.cells hk;obtain rfl:x=z:=by rw[hz] at hx;exact(Option.some.inj hx).symm
 have:=hc j u hu;rwa [Nat.zero_add] at this
end Go.Proofs.Ytokdjfoalkmhiaa
