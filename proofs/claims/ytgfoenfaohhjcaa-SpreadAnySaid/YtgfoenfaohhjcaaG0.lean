/- What serves all packages,and package by package the contracts of the functions that the law calls. -/
import Derived.Test.YtgfoenfaohhjcaaShort
import Derived.WalkLawsBesides
import Derived.WalkSpells
import Derived.Deep.AppendLies
import Derived.Shelf.Small.Bits
import Derived.Shelf.Sort.Plain
import Derived.Shelf.Slices.Turned
import Derived.Shelf.Slices.Cells
import Derived.Shelf.Slices.In.SortNone
import Derived.Lib.Split
import Derived.Lib.Join
import Derived.Lib.ParseIntB
import Derived.RangeFuncNested
import Derived.RangeFuncBound
import Derived.Lib.AtoiErrMem
import Derived.Shelf.Strings.BuilderX
import Derived.StillTailTactics
import Derived.Lib.ItoaLen
import Derived.Lib.AppendIntMem
import Derived.Lib.SmallJoins
import Derived.Test.YtgfoenfaohhjcaaRows
import Derived.Stop.LaidErr
import Derived.Stop.Joined
import Derived.MakeChecks
set_option linter.unusedVariables false
set_option maxRecDepth 100000
set_option maxHeartbeats 25600000
namespace Go.Proofs.Ytgfoenfaohhjcaa
open Go.RowKit
def Kept (w w':World):Prop:=Below w.heap.size w w'
theorem Kept.refl (w:World):Kept w w:=Below.refl _ _
theorem Kept.trans {a b c:World} (h:Kept a b) (k:Kept b c):Kept a c:=Below.trans h (Below.mono k h.size)
theorem Kept.drewN (w:World) (n:Nat):Kept w (w.drewN n):=below_drewN (Below.refl _ _) n
theorem Kept.drew (w:World):Kept w w.drew:=Kept.drewN w 1
theorem ja (w:World) (o:Obj):Kept w (w.alloc o):=(Below.refl _ _).alloc (Nat.le_refl _) _
theorem jX (w:World) (o o':Obj):Kept w ((w.alloc o).alloc o'):=(ja w o).trans (ja _ o')
theorem cell_later {w w':World} {a:Addr} {u:Value} (k:Kept w w') (h:w.cell? a=some u):w'.cell? a=some u :=
 (Below.cell k (World.block_lt_of_cell? _ _ h)).trans h
theorem jb {a b:Int} (h:a=b):Ending.returned (.int .i64 a)=.returned (.int .i64 b):=by rw[h]
def ltS (s t:ByteArray):Bool:=Op.bytesLess s.toList t.toList
def eqS (s t:ByteArray):Bool:=s.toList==t.toList
def leS (s t:ByteArray):Bool:=ltS s t||eqS s t
theorem jJ {s t:ByteArray}:eqS s t=true↔s=t:=by
 unfold eqS;rw[Lib.toList_data,Lib.toList_data,beq_iff_eq];constructor
 · intro h
   cases s;cases t
   simp only[ByteArray.mk.injEq];exact Array.ext' h
 · rintro rfl;rfl
theorem JU (s:ByteArray):eqS s s=true:=jJ.2 rfl
structure Lay (α:Type) where
 m:Nat
 cs:α→List Value
 fine:α→Prop
 len:∀x,(cs x).length=m
 one:∀x u,u ∈ cs x→u.oneCell'=true
 pos:0<m
theorem Z1 (x:ByteArray) (u:Value) (h:u ∈ [Value.string x]):u.oneCell'=true:=by
 have e:u=Value.string x:=by simpa using h
 rw[e];rfl
theorem jcM (x y:ByteArray) (u:Value) (h:u ∈ [Value.string x,Value.string y]):u.oneCell'=true:=by
 have e:u=Value.string x∨u=Value.string y:=by simpa using h
 rcases e with e | e<;>rw[e]<;>rfl
theorem jaZ (o:Int) (x y:ByteArray) (u:Value) (h:u ∈ [Value.int .i64 o,Value.string x,Value.string y]):u.oneCell'=true:=by
 have e:u=Value.int .i64 o∨u=Value.string x∨u=Value.string y:=by simpa using h
 rcases e with e | e | e<;>rw[e]<;>rfl
def StrLay:Lay ByteArray:={ m:=1,cs:=fun s=>[.string s],fine:=fun s=>s.size≤maxLen,len:=fun _=>rfl,one:=Z1,pos:=by decide }
def jl:Lay (ByteArray×ByteArray):={ m:=2,cs:=fun x=>[.string x.1,.string x.2],fine:=fun x=>x.1.size≤maxLen∧x.2.size≤maxLen,len:=fun _=>rfl,one:=fun x=>jcM x.1 x.2,pos:=by decide }
def jQ:Lay (Int×ByteArray×ByteArray):={ m:=3,cs:=fun x=>[.int .i64 x.1,.string x.2.1,.string x.2.2],fine:=fun x=>(-9223372036854775808≤x.1∧x.1≤9223372036854775807)∧x.2.1.size≤maxLen∧x.2.2.size≤maxLen,len:=fun _=>rfl,one:=fun x=>jaZ x.1 x.2.1 x.2.2,pos:=by decide }
def ji {α:Type} (L:Lay α) (w:World) (a:Option Addr) (len:Nat) (l:List α):Prop :=
 l.length=len∧len≤maxLen∧(∀x ∈ l,L.fine x) ∧
  (len=0∨∃b off,a=some ⟨b,off,none⟩∧b<w.heap.size ∧
    ∀i x j u,l[i]?=some x→(L.cs x)[j]?=some u→w.cell? ⟨b,off+i*L.m+j,none⟩=some u)
theorem ji.kept {α:Type} {L:Lay α} {w w':World} {a:Option Addr} {len:Nat} {l:List α} (h:ji L w a len l) (k:Kept w w'):ji L w' a len l:=by
 obtain⟨h0,h1,h2,h3⟩:=h;refine⟨h0,h1,h2,h3.imp id ?_⟩;rintro ⟨b,off,ha,hb,hc⟩;exact⟨b,off,ha,Nat.lt_of_lt_of_le hb k.size,fun i x j u hi hj=>(Below.cell k (p:=⟨b,off+i*L.m+j,none⟩) hb).trans (hc i x j u hi hj)⟩
theorem ji.nil {α:Type} {L:Lay α} (w:World) (a:Option Addr):ji L w a 0 []:=⟨rfl,by decide,fun i hi=>absurd hi (by simp),.inl rfl⟩
theorem ji.form {α:Type} {L:Lay α} {w:World} {a:Option Addr} {len:Nat} {l:List α} (h:ji L w a len l):len=0∨∃b off,a=some ⟨b,off,none⟩:=by
 obtain⟨_,_,_,h3⟩:=h;exact h3.imp id fun ⟨b,off,e,_⟩=>⟨b,off,e⟩
theorem ji.cells {α:Type} {L:Lay α} {w:World} {b off len:Nat} {l:List α} {k:Nat} (h:ji L w (some ⟨b,off,none⟩) len l) (hk:k<len) :
 ∃x,l[k]?=some x∧l.drop k=x::l.drop (k+1)∧b<w.heap.size∧L.fine x∧∀(j:Nat) u,(L.cs x)[j]?=some u→w.cell? ⟨b,off+k*L.m+j,none⟩=some u:=by
 obtain⟨h0,_,hf,h3⟩:=h;have hkl:k<l.length:=by omega
 rcases h3 with h3 | ⟨b',off',e,hb,hc⟩
 · omega
 · injection e with e;injection e with e1 e2 e3;subst e1;subst e2;have he:l[k]?=some l[k]:=List.getElem?_eq_getElem hkl;exact⟨l[k],he,List.drop_eq_getElem_cons hkl,hb,hf _ (List.getElem_mem hkl),fun j u hu=>hc k _ j u he hu⟩
theorem ji.str {w:World} {b off len:Nat} {l:List ByteArray} {k:Nat} (h:ji StrLay w (some ⟨b,off,none⟩) len l) (hk:k<len) :
 ∃x:ByteArray,l[k]?=some x∧l.drop k=x::l.drop (k+1)∧b<w.heap.size∧x.size≤maxLen∧w.cell? ⟨b,off+k,none⟩=some (.string x):=by
 obtain⟨x,h1,h2,h3,h4,h5⟩:=h.cells hk;exact⟨x,h1,h2,h3,h4,by have:=h5 0 _ rfl;simpa [StrLay] using this⟩
theorem ji.pair {w:World} {b off len:Nat} {l:List (ByteArray×ByteArray)} {k:Nat} (h:ji jl w (some ⟨b,off,none⟩) len l) (hk:k<len) :
 ∃x y:ByteArray,l[k]?=some (x,y)∧l.drop k=(x,y)::l.drop (k+1)∧b<w.heap.size∧x.size≤maxLen∧y.size≤maxLen∧w.cell? ⟨b,off+k*2,none⟩=some (.string x)∧w.cell? ⟨b,off+k*2+1,none⟩=some (.string y):=by
 obtain⟨⟨x,y⟩,h1,h2,h3,h4,h5⟩:=h.cells hk;exact⟨x,y,h1,h2,h3,h4.1,h4.2,h5 0 _ rfl,h5 1 _ rfl⟩
theorem ji.term {w:World} {b off len:Nat} {l:List (Int×ByteArray×ByteArray)} {k:Nat} (h:ji jQ w (some ⟨b,off,none⟩) len l) (hk:k<len) :
 ∃(o:Int) (x y:ByteArray),l[k]?=some (o,x,y)∧l.drop k=(o,x,y)::l.drop (k+1)∧b<w.heap.size∧(-9223372036854775808≤o∧o≤9223372036854775807)∧x.size≤maxLen∧y.size≤maxLen ∧
  w.cell? ⟨b,off+k*3,none⟩=some (.int .i64 o)∧w.cell? ⟨b,off+k*3+1,none⟩=some (.string x)∧w.cell? ⟨b,off+k*3+2,none⟩=some (.string y):=by
 obtain⟨⟨o,x,y⟩,h1,h2,h3,h4,h5⟩:=h.cells hk;exact⟨o,x,y,h1,h2,h3,h4.1,h4.2.1,h4.2.2,h5 0 _ rfl,h5 1 _ rfl,h5 2 _ rfl⟩
def jc {α:Type} (L:Lay α) (l:List α):List Value:=l.flatMap L.cs
theorem ZF {α:Type} (L:Lay α):∀l:List α,(jc L l).length=l.length*L.m
 | []=>by simp[jc]
 | x::t=>by
  have:=ZF L t;unfold jc at this ⊢;rw[List.flatMap_cons,List.length_append,this,L.len,List.length_cons,Nat.add_mul,Nat.one_mul,Nat.add_comm]
theorem JD {α:Type} (L:Lay α) (l m:List α):jc L (l++m)=jc L l++jc L m:=by unfold jc;rw[List.flatMap_append]
theorem qG {α:Type} (L:Lay α) (l:List α) (u:Value) (h:u ∈ jc L l):u.oneCell'=true:=by
 obtain⟨x,_,hu⟩:=List.mem_flatMap.1 h;exact L.one x u hu
theorem J5 {α:Type} (L:Lay α):∀(l:List α) (i:Nat) (x:α) (j:Nat) (u:Value),l[i]?=some x→(L.cs x)[j]?=some u→(jc L l)[i*L.m+j]?=some u
 | [],i,x,j,u,h,_=>by simp at h
 | y::t,0,x,j,u,h,hu=>by
  have:y=x:=by simpa using h
  subst this;unfold jc;rw[List.flatMap_cons,Nat.zero_mul,Nat.zero_add,List.getElem?_append_left (List.getElem?_eq_some_iff.1 hu).1];exact hu
 | y::t,i+1,x,j,u,h,hu=>by
  have ih:=J5 L t i x j u (by simpa using h) hu;unfold jc at ih ⊢;rw[List.flatMap_cons,List.getElem?_append_right (by rw[L.len,Nat.add_mul];omega),L.len];have:(i+1)*L.m+j-L.m=i*L.m+j:=by rw[Nat.add_mul];omega
  rw[this];exact ih
def Own {α:Type} (L:Lay α) (e:TypeId) (w:World) (base:Nat) (v:Value) (l:List α):Prop:=w.ownsRow base e L.m v l.length (jc L l)∧∀x ∈ l,L.fine x
theorem Own.nil {α:Type} {L:Lay α} (e:TypeId) (w:World) (base:Nat):Own L e w base (.slice none 0 0) []:=⟨World.ownsRow_nil w base e L.m,fun x h=>by cases h⟩
theorem Own.at_ {α:Type} {L:Lay α} {e:TypeId} {w:World} {base:Nat} {v:Value} {l:List α} (h:Own L e w base v l) :
 ∃a cap,v=.slice a l.length cap∧l.length≤cap∧cap≤maxLen∧ji L w a l.length l:=by
 obtain⟨h,hf⟩:=h;have h':=h;obtain⟨_,h1⟩:=h;rcases h1 with ⟨rfl,h0⟩ | ⟨g,cap,cur,rfl,hbg,hg,hn,hm,hs,ht⟩
 · have:l=[]:=List.eq_nil_of_length_eq_zero h0;subst this;exact⟨none,0,rfl,Nat.le_refl _,by decide,ji.nil w none⟩
 · refine⟨_,cap,rfl,hn,hm,rfl,Nat.le_trans hn hm,hf,.inr ⟨g,0,rfl,?_,fun i x j u hi hj=>?_⟩⟩
   · rcases Nat.lt_or_ge g w.heap.size with hlt | hge
     · exact hlt
     · rw[Array.getElem?_eq_none hge] at hg;cases hg
   · have c1:=h'.cells (g:=g) rfl _ _ (J5 L l i x j u hi hj);rw[←c1];congr 1
     unfold Addr.add;split<;>simp_all
theorem Own.kept {α:Type} {L:Lay α} {e:TypeId} {w w':World} {base:Nat} {v:Value} {l:List α} (h:Own L e w base v l) (k:Kept w w'):Own L e w' base v l:=by
 obtain⟨⟨h0,h1⟩,hf⟩:=h;refine⟨⟨h0,h1.imp id ?_⟩,hf⟩;rintro ⟨g,cap,cur,rfl,hbg,hg,hn,hm,hs,ht⟩;refine⟨g,cap,cur,rfl,hbg,?_,hn,hm,hs,ht⟩;have hlt:g<w.heap.size:=by
  rcases Nat.lt_or_ge g w.heap.size with hlt | hge
  · exact hlt
  · rw[Array.getElem?_eq_none hge] at hg;cases hg
 exact(k.block g hlt).trans hg
theorem Own.base_le {α:Type} {L:Lay α} {e:TypeId} {w:World} {B B':Nat} {v:Value} {l:List α} (h:Own L e w B' v l) (hb:B≤B'):Own L e w B v l:=by
 obtain⟨⟨h0,h1⟩,hf⟩:=h;refine⟨⟨h0,h1.imp id ?_⟩,hf⟩;rintro ⟨g,cap,cur,rfl,hbg,rest⟩;exact⟨g,cap,cur,rfl,Nat.le_trans hb hbg,rest⟩
theorem Own.put {α:Type} {L:Lay α} {e:TypeId} {w:World} {B D:Nat} {v:Value} {l:List α} (h:Own L e w B v l) (hD:D<B) (o:Obj):Own L e (w.putObj D o) B v l:=by
 obtain⟨⟨h0,h1⟩,hf⟩:=h;refine⟨⟨h0,h1.imp id ?_⟩,hf⟩;rintro ⟨g,cap,cur,rfl,hbg,hg,rest⟩;exact⟨g,cap,cur,rfl,hbg,(World.putObj_heap_other (by omega)).trans hg,rest⟩
def Reads {α:Type} (L:Lay α) (w:World) (v:Value) (l:List α):Prop:=∃a cap,v=.slice a l.length cap∧l.length≤cap∧cap≤maxLen∧ji L w a l.length l
theorem Reads.kept {α:Type} {L:Lay α} {w w':World} {v:Value} {l:List α} (h:Reads L w v l) (k:Kept w w'):Reads L w' v l:=by
 obtain⟨a,cap,e,h1,h2,h3⟩:=h;exact⟨a,cap,e,h1,h2,h3.kept k⟩
theorem Own.reads {α:Type} {L:Lay α} {e:TypeId} {w:World} {base:Nat} {v:Value} {l:List α} (h:Own L e w base v l):Reads L w v l:=by
 obtain⟨a,cap,e,h1,h2,h3⟩:=h.at_;exact⟨a,cap,e,h1,h2,h3⟩
abbrev zQ (c:Int):PanicEntry:={ v:=.iface 93 (.int .i64 c),recovered:=false }
def JM (c:UInt8):Bool:=(decide (97≤(c.toNat:Int))&&decide ((c.toNat:Int)≤122))||(decide (48≤(c.toNat:Int))&&decide ((c.toNat:Int)≤57))
def isName (s:ByteArray):Bool:=decide (1≤s.size)&&decide (s.size≤12)&&s.data.toList.all JM
theorem je {a b:Bool} (h:a=b):Ending.returned (.bool a)=.returned (.bool b):=by rw[h]
theorem ZZ (c:UInt8):JM c=true↔((97≤(c.toNat:Int)∧(c.toNat:Int)≤122)∨(48≤(c.toNat:Int)∧(c.toNat:Int)≤57)):=by
 unfold JM;simp only[Bool.or_eq_true,Bool.and_eq_true,decide_eq_true_eq]
theorem jen {s:ByteArray} (h:s.data.toList.all JM=true) (i:Nat) (hi:i<s.size):JM s[i]=true:=by
 rw[List.all_eq_true] at h;exact h _ (by simp[ByteArray.getElem_eq_getElem_data])
theorem jbd {s:ByteArray} (h:¬s.data.toList.all JM=true):∃(j:Nat) (hj:j<s.size),JM s[j]=false:=by
 rw[List.all_eq_true] at h;obtain⟨x,h⟩:=Classical.not_forall.1 h;obtain⟨hx,hn⟩:=Classical.not_imp.1 h;obtain⟨j,hj,e⟩:=List.getElem_of_mem hx;refine⟨j,by simpa using hj,?_⟩;have:s[j]'(by simpa using hj)=x:=by rw[←e];simp[ByteArray.getElem_eq_getElem_data]
 rw[this];simpa using hn
theorem jg (s:ByteArray) (w:World) (hs:s.size≤maxLen) :
 Calls Try.prog 33 #[.string s] w fun e w'=>e=.returned (.bool (isName s))∧w=w':=by
 unfold maxLen at hs;by_cases h1:1≤s.size
 · by_cases h2:s.size≤12
   · by_cases hall:s.data.toList.all JM=true
     · have HV:=lH (show isName s=true by simp[isName,h1,h2,hall]);have HA:=lH (jen hall);clear hall;go_enter Try.func33,Try.ntmps33;go_wp2;go_loop [3] (fun i=>∃k:Nat,k≤s.size∧i=.int .i64 k) (fun i=>s.size-(intOf i).toNat)
       case atStart=>exact⟨0,Nat.zero_le _,rfl⟩
       case round =>
        obtain⟨k,hk,rfl⟩:=hrel;by_cases hlt:k<s.size
        · have hok:=(ZZ _).1 (HA.out k hlt);by_cases c1:(s[k].toNat:Int)<97
          · have c2:48≤(s[k].toNat:Int):=by omega
            have c3:(s[k].toNat:Int)≤57:=by omega
            clear hok;go_wp2;go_round
            case rel=>exact⟨k+1,by omega,by go_num⟩
            case measure=>simp[intOf];omega
          · have c2:(s[k].toNat:Int)≤122:=by omega
            clear hok;go_wp2;go_round
            case rel=>exact⟨k+1,by omega,by go_num⟩
            case measure=>simp[intOf];omega
        · go_wp2;go_ret;exact⟨je HV.out.symm,rfl⟩
     · have HV:=lH (show isName s=false by simp only[isName,Bool.and_eq_false_iff];exact .inr (by simpa using hall));obtain⟨j,hj,hbad⟩:=jbd hall;have HB:=lH hbad;clear hall hbad;go_enter Try.func33,Try.ntmps33;go_wp2;go_loop [3] (fun i=>∃k:Nat,k≤j∧i=.int .i64 k) (fun i=>s.size-(intOf i).toNat)
       case atStart=>exact⟨0,Nat.zero_le _,rfl⟩
       case round =>
        obtain⟨k,hk,rfl⟩:=hrel;have hlt:k<s.size:=by omega
        by_cases hok:JM s[k]=true
        · have hkj:k+1≤j:=by
           rcases Nat.lt_or_eq_of_le hk with g | g
           · exact g
           · subst g;rw[HB.out] at hok;cases hok
          have hok:=(ZZ _).1 hok;by_cases c1:(s[k].toNat:Int)<97
          · have c2:48≤(s[k].toNat:Int):=by omega
            have c3:(s[k].toNat:Int)≤57:=by omega
            clear hok;go_wp2;go_round
            case rel=>exact⟨k+1,by omega,by go_num⟩
            case measure=>simp[intOf];omega
          · have c2:(s[k].toNat:Int)≤122:=by omega
            clear hok;go_wp2;go_round
            case rel=>exact⟨k+1,by omega,by go_num⟩
            case measure=>simp[intOf];omega
        · have hbad:¬((97≤(s[k].toNat:Int)∧(s[k].toNat:Int)≤122)∨(48≤(s[k].toNat:Int)∧(s[k].toNat:Int)≤57)):=fun g=>hok ((ZZ _).2 g);clear hok;by_cases c1:(s[k].toNat:Int)<97
          · by_cases c2:(s[k].toNat:Int)<48
            · clear hbad;go_wp2;go_ret;exact⟨je HV.out.symm,rfl⟩
            · have c3:57<(s[k].toNat:Int):=by omega
              clear hbad;go_wp2;go_ret;exact⟨je HV.out.symm,rfl⟩
          · have c2:122<(s[k].toNat:Int):=by omega
            have c3:57<(s[k].toNat:Int):=by omega
            have c4:¬(s[k].toNat:Int)<48:=by omega
            clear hbad;go_wp2;go_ret;exact⟨je HV.out.symm,rfl⟩
   · have HV:=lH (show isName s=false by simp[isName,h2]);have h3:12<s.size:=by omega
     clear h2;go_enter Try.func33,Try.ntmps33;go_wp2;go_ret;exact⟨je HV.out.symm,rfl⟩
 · have HV:=lH (show isName s=false by simp[isName,h1]);have h3:s.size<1:=by omega
   clear h1;go_enter Try.func33,Try.ntmps33;go_wp2;go_ret;exact⟨je HV.out.symm,rfl⟩
end Go.Proofs.Ytgfoenfaohhjcaa
namespace Go.Proofs
open Go.Shelf
def Try.lays190_ren:Go.Shelf.Ren:=⟨fun | 190=>50 | 125=>70 | 258=>69 | 128=>90 | 129=>91 | 302=>81 | 303=>82 | 304=>83 | 305=>84 | 306=>85 | 307=>86 | 308=>87 | 309=>88 | 310=>89 | 333=>97 | 329=>98 | 330=>99 | 334=>100 | 335=>101 | 336=>102 | 344=>103 | n=>n,fun | 31=>57 | 9=>9 | 3=>3 | 46=>146 | 0=>0 | 51=>166 | 53=>168 | 4=>4 | 183=>159 | 182=>158 | 131=>53 | 5=>5 | 218=>178 | 222=>182 | 228=>184 | 229=>185 | n=>n,fun | n=>n⟩
theorem Try.lays190:Go.Proofs.Lays.n190 Try.prog Try.lays190_ren:={
 mixed:=by kernel_rfl
 f125:=Try.func70.trans (congrArg some (by kernel_rfl))
 f128:=Try.func90.trans (congrArg some (by kernel_rfl))
 f129:=Try.func91.trans (congrArg some (by kernel_rfl))
 f190:=Try.func50.trans (congrArg some (by kernel_rfl))
 f258:=Try.func69.trans (congrArg some (by kernel_rfl))
 f302:=Try.func81.trans (congrArg some (by kernel_rfl))
 f303:=Try.func82.trans (congrArg some (by kernel_rfl))
 f304:=Try.func83.trans (congrArg some (by kernel_rfl))
 f305:=Try.func84.trans (congrArg some (by kernel_rfl))
 f306:=Try.func85.trans (congrArg some (by kernel_rfl))
 f307:=Try.func86.trans (congrArg some (by kernel_rfl))
 f308:=Try.func87.trans (congrArg some (by kernel_rfl))
 f309:=Try.func88.trans (congrArg some (by kernel_rfl))
 f310:=Try.func89.trans (congrArg some (by kernel_rfl))
 f329:=Try.func98.trans (congrArg some (by kernel_rfl))
 f330:=Try.func99.trans (congrArg some (by kernel_rfl))
 f333:=Try.func97.trans (congrArg some (by kernel_rfl))
 f334:=Try.func100.trans (congrArg some (by kernel_rfl))
 f335:=Try.func101.trans (congrArg some (by kernel_rfl))
 f336:=Try.func102.trans (congrArg some (by kernel_rfl))
 f344:=Try.func103.trans (congrArg some (by kernel_rfl))
 t0:=Try.underlying0
 a0:=Try.isAgg0
 z0:=Try.sizeOf0
 v0:=Try.zeroValue0
 t3:=Try.underlying3
 a3:=Try.isAgg3
 z3:=Try.sizeOf3
 v3:=Try.zeroValue3
 t4:=Try.underlying4
 a4:=Try.isAgg4
 z4:=Try.sizeOf4
 v4:=Try.zeroValue4
 t5:=Try.underlying5
 a5:=Try.isAgg5
 z5:=Try.sizeOf5
 v5:=Try.zeroValue5
 t9:=Try.underlying9
 a9:=Try.isAgg9
 z9:=Try.sizeOf9
 v9:=Try.zeroValue9
 t31:=Try.underlying57
 a31:=Try.isAgg57
 z31:=Try.sizeOf57
 v31:=Try.zeroValue57
 t46:=Try.underlying146
 a46:=Try.isAgg146
 z46:=Try.sizeOf146
 v46:=Try.zeroValue146
 t51:=Try.underlying166
 a51:=Try.isAgg166
 z51:=Try.sizeOf166
 v51:=Try.zeroValue166
 t53:=Try.underlying168
 a53:=Try.isAgg168
 z53:=Try.sizeOf168
 v53:=Try.zeroValue168
 t131:=Try.underlying53
 a131:=Try.isAgg53
 z131:=Try.sizeOf53
 v131:=Try.zeroValue53
 t182:=Try.underlying158
 a182:=Try.isAgg158
 z182:=Try.sizeOf158
 v182:=Try.zeroValue158
 t183:=Try.underlying159
 a183:=Try.isAgg159
 z183:=Try.sizeOf159
 v183:=Try.zeroValue159
 t218:=Try.underlying178
 a218:=Try.isAgg178
 z218:=Try.sizeOf178
 v218:=Try.zeroValue178
 t222:=Try.underlying182
 a222:=Try.isAgg182
 z222:=Try.sizeOf182
 v222:=Try.zeroValue182
 t228:=Try.underlying184
 a228:=Try.isAgg184
 z228:=Try.sizeOf184
 v228:=Try.zeroValue184
 t229:=Try.underlying185
 a229:=Try.isAgg185
 z229:=Try.sizeOf185
 v229:=Try.zeroValue185 }
open Go.Sort Go.RowKit in
theorem Try.slices_Sort_string (blk off cap:Nat) (ss:List (List UInt8)) (w:World) (hH:Holds encStr w blk off ss.toArray) (hblk:blk<w.heap.size) (hsz:ss.length<4611686018427387904) :
 Calls Try.prog 50 #[.slice (some ⟨blk,off,none⟩) ss.length cap] w fun e w' =>
  e=.returned (.tuple #[])∧∃n os,w'=grow (putRow encStr (Sort.ahead w n) blk off (ss.mergeSort fun x y=>decide (x≤y)).toArray) os:=Any.slices_Sort_string Try.lays190 blk off cap ss w hH hblk hsz
def Try.lays114_ren:Go.Shelf.Ren:=⟨fun | 114=>66 | n=>n,fun | 28=>139 | 3=>3 | 4=>4 | 9=>9 | 20=>20 | 0=>0 | n=>n,fun | n=>n⟩
theorem Try.lays114:Go.Proofs.Lays.n114 Try.prog Try.lays114_ren:={
 mixed:=by kernel_rfl
 f114:=Try.func66.trans (congrArg some (by kernel_rfl))
 t0:=Try.underlying0
 a0:=Try.isAgg0
 z0:=Try.sizeOf0
 v0:=Try.zeroValue0
 t3:=Try.underlying3
 a3:=Try.isAgg3
 z3:=Try.sizeOf3
 v3:=Try.zeroValue3
 t4:=Try.underlying4
 a4:=Try.isAgg4
 z4:=Try.sizeOf4
 v4:=Try.zeroValue4
 t9:=Try.underlying9
 a9:=Try.isAgg9
 z9:=Try.sizeOf9
 v9:=Try.zeroValue9
 t20:=Try.underlying20
 a20:=Try.isAgg20
 z20:=Try.sizeOf20
 v20:=Try.zeroValue20
 t28:=Try.underlying139
 a28:=Try.isAgg139
 z28:=Try.sizeOf139
 v28:=Try.zeroValue139 }
open Go.Lib in
theorem Try.slices_Min_int (b off n c:Nat) (zs:List Int) (w:World) (hn:0<n) (hz:n≤zs.length) (hbig:n≤9223372036854775807) (hc:∀j,j<zs.length→w.cell? ⟨b,off+j,none⟩=some (.int .i64 (zs.getD j 0))) :
 Calls Try.prog 66 #[.slice (some ⟨b,off,none⟩) n c] w fun e w'=>e=.returned (.int .i64 (Lib.minOf (zs.take n)))∧w'=w:=Any.slices_Min_int Try.lays114 b off n c zs w hn hz hbig hc
def Try.lays194_ren:Go.Shelf.Ren:=⟨fun | 194=>51 | n=>n,fun | 31=>57 | 9=>9 | 3=>3 | 4=>4 | 0=>0 | n=>n,fun | n=>n⟩
theorem Try.lays194:Go.Proofs.Lays.n194 Try.prog Try.lays194_ren:={
 mixed:=by kernel_rfl
 f194:=Try.func51.trans (congrArg some (by kernel_rfl))
 t0:=Try.underlying0
 a0:=Try.isAgg0
 z0:=Try.sizeOf0
 v0:=Try.zeroValue0
 t3:=Try.underlying3
 a3:=Try.isAgg3
 z3:=Try.sizeOf3
 v3:=Try.zeroValue3
 t4:=Try.underlying4
 a4:=Try.isAgg4
 z4:=Try.sizeOf4
 v4:=Try.zeroValue4
 t9:=Try.underlying9
 a9:=Try.isAgg9
 z9:=Try.sizeOf9
 v9:=Try.zeroValue9
 t31:=Try.underlying57
 a31:=Try.isAgg57
 z31:=Try.sizeOf57
 v31:=Try.zeroValue57 }
open Go.RowKit Go.Lib Go.Sort in
theorem Try.slices_Compact_string (blk off cap:Nat) (zs:List (List UInt8)) (w:World) (hH:Holds encStr w blk off zs.toArray) (hsz:zs.length≤9223372036854775807) (hcap:zs.length≤cap) :
 Calls Try.prog 51 #[.slice (some ⟨blk,off,none⟩) zs.length cap] w fun e w'=>e=.returned (.slice (some ⟨blk,off,none⟩) (Lib.compact zs).length cap)∧∃q,w'=putRow encStr (Sort.ahead w q) blk off (Lib.compact zs++List.replicate (zs.length-(Lib.compact zs).length) []).toArray:=Any.slices_Compact_string Try.lays194 blk off cap zs w hH hsz hcap
open Go.RowKit Go.Lib Go.Sort in
theorem Try.slices_Compact_string_empty (a:Option Addr) (cap:Nat) (w:World) :
 Calls Try.prog 51 #[.slice a 0 cap] w fun e w'=>e=.returned (.slice a 0 cap)∧w'=w:=Any.slices_Compact_string_empty Try.lays194 a cap w
open Go.RowKit Go.Sort in
theorem Try.slices_Sort_string_none (p:Option Addr) (cap:Nat) (w:World) :
 Calls Try.prog 50 #[.slice p 0 cap] w fun e w'=>e=.returned (.tuple #[])∧w'=w:=Any.slices_Sort_string_none Try.lays190 p cap w
end Go.Proofs
namespace Go.Proofs.Ytgfoenfaohhjcaa.Vec
open Go.RowKit
def YN (v x:Int) (w:World) (e:Ending) (w':World):Prop:=e=.returned (.tuple #[.int .i64 v,.int .i64 x])∧w=w'
def Ans (v x:Int) (w:World) (e:Ending) (w':World):Prop:=e=.returned (.tuple #[.int .i64 v,.int .i64 x])∧Kept w w'
theorem YN.ans {v x:Int} {w:World} {e:Ending} {w':World} (h:YN v x w e w'):Ans v x w e w':=by
 obtain⟨rfl,rfl⟩:=h;exact⟨rfl,Kept.refl _⟩
abbrev V:=List (ByteArray×Int)
def nm (l:V) (i:Nat):ByteArray:=(l.getD i (ByteArray.empty,0)).1
def qn (l:V) (i:Nat):Int:=(l.getD i (ByteArray.empty,0)).2
def zC (l:V):Prop:=∀i,i<l.length→(nm l i).size≤maxLen∧-9223372036854775808≤qn l i∧qn l i≤9223372036854775807
def jH (w:World) (a:Option Addr) (len:Nat) (l:V):Prop :=
 l.length=len∧len≤maxLen∧zC l ∧
  (len=0∨∃b off,a=some ⟨b,off,none⟩∧b<w.heap.size ∧
    ∀i,i<len→w.cell? ⟨b,off+i*2,none⟩=some (.string (nm l i))∧w.cell? ⟨b,off+i*2+1,none⟩=some (.int .i64 (qn l i)))
theorem jH.kept {w w':World} {a:Option Addr} {len:Nat} {l:V} (h:jH w a len l) (k:Kept w w'):jH w' a len l:=by
 obtain⟨h0,h1,h2,h3⟩:=h;refine⟨h0,h1,h2,h3.imp id ?_⟩;rintro ⟨b,off,ha,hb,hc⟩;exact⟨b,off,ha,Nat.lt_of_lt_of_le hb k.size,fun i hi =>
  ⟨(Below.cell k (p:=⟨b,off+i*2,none⟩) hb).trans (hc i hi).1,(Below.cell k (p:=⟨b,off+i*2+1,none⟩) hb).trans (hc i hi).2⟩⟩
theorem jH.nil (w:World):jH w none 0 []:=⟨rfl,by decide,fun i hi=>absurd hi (by simp),.inl rfl⟩
theorem drop_cons {l:V} {k:Nat} (h:k<l.length):l.drop k=(nm l k,qn l k)::l.drop (k+1):=by
 rw[List.drop_eq_getElem_cons h];have:l.getD k (ByteArray.empty,0)=l[k]:=by simp[List.getD,h]
 simp only[nm,qn,this]
theorem jH.cells {w:World} {b off len:Nat} {l:V} {k:Nat} (h:jH w (some ⟨b,off,none⟩) len l) (hk:k<len) :
 b<w.heap.size∧w.cell? ⟨b,off+k*2,none⟩=some (.string (nm l k))∧w.cell? ⟨b,off+k*2+1,none⟩=some (.int .i64 (qn l k)):=by
 obtain⟨_,_,_,h3⟩:=h;rcases h3 with h3 | ⟨b',off',e,hb,hc⟩
 · omega
 · injection e with e;injection e with e1 e2 e3;subst e1;subst e2;exact⟨hb,hc k hk⟩
theorem jH.form {w:World} {a:Option Addr} {len:Nat} {l:V} (h:jH w a len l):len=0∨∃b off,a=some ⟨b,off,none⟩:=by
 obtain⟨_,_,_,h3⟩:=h;exact h3.imp id fun ⟨b,off,e,_⟩=>⟨b,off,e⟩
def J6 (l:V) (k:Nat):Option ByteArray:=if k=0 then none else some (nm l (k-1))
def jm (prev:Option ByteArray) (s:ByteArray):Bool:=match prev with | none=>false | some p=>leS s p
def jD:Option ByteArray→V→Int
 | _,[]=>0
 | prev,x::t=>if isName x.1=false then 3 else if x.2≤0 then 1 else if jm prev x.1=true then 13 else jD (some x.1) t
def jn (l:V):Int:=if 8<l.length then 4 else jD none l
theorem ZK {l:V} {k:Nat} (h:k=0) (s:ByteArray):jm (J6 l k) s=false:=by unfold J6;rw[if_pos h];rfl
theorem ZQ {l:V} {k:Nat} (h:¬k=0) (s:ByteArray):jm (J6 l k) s=leS s (nm l (k-1)):=by unfold J6;rw[if_neg h];rfl
theorem ZC (l:V) (k:Nat):J6 l (k+1)=some (nm l k):=by unfold J6;rw[if_neg (by omega)];rfl
theorem Yf {l:V} {k:Nat} {p:Option ByteArray} (h:k<l.length) (n1:isName (nm l k)=false):jD p (l.drop k)=3:=by
 rw[drop_cons h,jD,if_pos n1]
theorem jdO {l:V} {k:Nat} {p:Option ByteArray} (h:k<l.length) (n1:isName (nm l k)=true) (n2:qn l k≤0):jD p (l.drop k)=1:=by
 rw[drop_cons h,jD,if_neg (by rw[n1];decide),if_pos n2]
theorem Yx {l:V} {k:Nat} {p:Option ByteArray} (h:k<l.length) (n1:isName (nm l k)=true) (n2:0<qn l k) (n3:jm p (nm l k)=true):jD p (l.drop k)=13:=by
 rw[drop_cons h,jD,if_neg (by rw[n1];decide),if_neg (by omega),if_pos n3]
theorem Zl {l:V} {k:Nat} {p:Option ByteArray} (h:k<l.length) (n1:isName (nm l k)=true) (n2:0<qn l k) (n3:jm p (nm l k)=false):jD p (l.drop k)=jD (J6 l (k+1)) (l.drop (k+1)):=by
 rw[drop_cons h,jD,if_neg (by rw[n1];decide),if_neg (by omega),if_neg (by rw[n3];decide),ZC]
theorem jef {l:V} {k:Nat} {p:Option ByteArray} (h:¬k<l.length):jD p (l.drop k)=0:=by
 rw[List.drop_of_length_le (by omega),jD]
theorem JQ (a:Option Addr) (len cap:Nat) (l:V) (w:World) (hr:jH w a len l) :
 Calls Try.prog 34 #[.slice a len cap] w fun e w'=>e=.returned (.int .i64 (jn l))∧Kept w w':=by
 have hl:=hr.1;have hm:=hr.2.1;unfold maxLen at hm;have hf:=hr.2.2.1;by_cases h8:len≤8
 · have HV:=lH (show jn l=jD none l by unfold jn;rw[if_neg (by omega)]);rcases hr.form with h0 | ⟨b,off,rfl⟩
   · subst h0;have HE:=lH (show jn l=0 by rw[HV.out];rw[List.eq_nil_of_length_eq_zero hl];rfl);clear hr hl hf;go_enter Try.func34,Try.ntmps34;go_wp2;refine wp_loop_rounds 1 ?_;rw[rounds_succ];go_wp2;go_ret;exact⟨jb HE.out.symm,Kept.refl _⟩
   · have HF:=lH hf;have HR:=lH hr;have HL:=lH hl;clear hf hr hl;go_enter Try.func34,Try.ntmps34;go_wp2;go_loopw [3] (fun i wr=>∃k:Nat,k≤len∧i=.int .i64 k∧jD (J6 l k) (l.drop k)=jD none l∧Kept w wr) (fun i _=>len-(intOf i).toNat)
     case atStart=>exact⟨0,Nat.zero_le _,rfl,rfl,Kept.refl _⟩
     case round =>
      obtain⟨k,hk,rfl,hrest,hK⟩:=hrel;by_cases hlt:k<len
      · have HK:=lH hK;have HS:=lH (HV.out.trans hrest.symm);have HT:=lH hrest;obtain⟨hb,c1,c2⟩:=(HR.out.kept hK).cells hlt;clear hK hrest;have hz:(nm l k).size≤maxLen:=(HF.out k (by rw[HL.out];exact hlt)).1;have HI:=lH (show k<l.length by rw[HL.out];exact hlt);by_cases n1:isName (nm l k)=true
        · have N1:=lH n1;by_cases n2:qn l k≤0
          · have N2:=lH n2;go_wp2_with (go_at_call 33;refine(jg _ _ hz).mono ?_;rintro e w' ⟨rfl,rfl⟩)
            go_ret;exact⟨jb (HS.out.trans (jdO HI.out N1.out N2.out)).symm,HK.out⟩
          · have n2:0<qn l k:=by omega
            have N2:=lH n2;by_cases h0:k=0
            · have hd:decide (0<k)=false:=by subst h0;decide
              have HP:=lH (ZK (l:=l) h0 (nm l k));clear h0;go_wp2_with (go_at_call 33;refine(jg _ _ hz).mono ?_;rintro e w' ⟨rfl,rfl⟩)
              go_quiet (fail)
              go_wp2;go_roundw
              case rel=>exact⟨k+1,by omega,by go_num,(Zl HI.out N1.out N2.out HP.out).symm.trans HT.out,HK.out.trans (Kept.drewN _ _)⟩
              case measure=>simp[intOf];omega
            · have hd:decide (0<k)=true:=by simp;omega
              have g1:0≤(k:Int)-1:=by omega
              have g2:(k:Int)-1<(len:Int):=by omega
              have g3:((k:Int)-1).toNat=k-1:=by omega
              have HP:=lH (ZQ (l:=l) h0 (nm l k));obtain⟨_,d1,d2⟩:=(HR.out.kept HK.out).cells (show k-1<len by omega);by_cases n3:leS (nm l k) (nm l (k-1))=true
              · have n3':(Op.bytesLess (nm l k).toList (nm l (k-1)).toList||(nm l k).toList==(nm l (k-1)).toList)=true:=n3;have N3:=lH n3;clear n3;go_wp2_with (go_at_call 33;refine(jg _ _ hz).mono ?_;rintro e w' ⟨rfl,rfl⟩)
                go_quiet (fail)
                go_wp2;go_ret;exact⟨jb (HS.out.trans (Yx HI.out N1.out N2.out (HP.out.trans N3.out))).symm,HK.out.trans (Kept.drewN _ _)⟩
              · have n3:leS (nm l k) (nm l (k-1))=false:=by simpa using n3
                have n3':(Op.bytesLess (nm l k).toList (nm l (k-1)).toList||(nm l k).toList==(nm l (k-1)).toList)=false:=n3;have N3:=lH n3;clear n3;go_wp2_with (go_at_call 33;refine(jg _ _ hz).mono ?_;rintro e w' ⟨rfl,rfl⟩)
                go_quiet (fail)
                go_wp2;go_roundw
                case rel=>exact⟨k+1,by omega,by go_num,(Zl HI.out N1.out N2.out (HP.out.trans N3.out)).symm.trans HT.out,HK.out.trans (Kept.drewN _ _)⟩
                case measure=>simp[intOf];omega
        · have n1:isName (nm l k)=false:=by simpa using n1
          have N1:=lH n1;go_wp2_with (go_at_call 33;refine(jg _ _ hz).mono ?_;rintro e w' ⟨rfl,rfl⟩)
          go_ret;exact⟨jb (HS.out.trans (Yf HI.out N1.out)).symm,HK.out⟩
      · have HK:=lH hK;have HS:=lH (HV.out.trans hrest.symm);have HI:=lH (show ¬k<l.length by rw[HL.out];exact hlt);clear hK hrest;go_wp2;go_ret;exact⟨jb (HS.out.trans (jef HI.out)).symm,HK.out⟩
 · have HV:=lH (show jn l=4 by unfold jn;rw[if_pos (by omega)]);have h9:8<len:=by omega
   clear h8 hr hl hf;go_enter Try.func34,Try.ntmps34;go_wp2;go_ret;exact⟨jb HV.out.symm,Kept.refl _⟩
def Chk (l:V) (v:Value) (w:World) (e:Ending) (w':World):Prop :=
 (jn l=0→e=.returned v)∧(jn l≠0→e=.panicked [zQ (jn l)])∧Kept w w'
theorem Chk.good {l:V} {v:Value} {w w':World} (h:jn l=0) (k:Kept w w'):Chk l v w (.returned v) w':=⟨fun _=>rfl,fun g=>absurd h g,k⟩
theorem Chk.bad {l:V} {v:Value} {w w':World} {c:Int} (h:jn l=c) (hc:c≠0) (k:Kept w w'):Chk l v w (.panicked [zQ c]) w':=⟨fun g=>absurd (h.symm.trans g) hc,fun _=>by rw[h],k⟩
def jo:V→ByteArray→Int
 | [],_=>0
 | x::t,n=>if eqS x.1 n=true then x.2 else jo t n
theorem jc8 {l:V} {k:Nat} {n:ByteArray} (h:k<l.length) (e:eqS (nm l k) n=true):jo (l.drop k) n=qn l k:=by rw[drop_cons h,jo,if_pos e]
theorem jcW {l:V} {k:Nat} {n:ByteArray} (h:k<l.length) (e:eqS (nm l k) n=false):jo (l.drop k) n=jo (l.drop (k+1)) n:=by rw[drop_cons h,jo,if_neg (by rw[e];decide)]
theorem jee {l:V} {k:Nat} {n:ByteArray} (h:¬k<l.length):jo (l.drop k) n=0:=by rw[List.drop_of_length_le (by omega),jo]
def zI:V→Bool
 | []=>true
 | x::t=>decide (x.1.size≤50)&&zI t
def JP (l:V):Bool:=decide (l.length≤20)&&zI l
theorem XM (a:Option Addr) (len cap:Nat) (l:V) (w:World) (hr:jH w a len l) :
 Calls Try.prog 29 #[.slice a len cap] w fun e w'=>e=.returned (.bool (JP l))∧w=w':=by
 have hl:=hr.1;have hm:=hr.2.1;have hf:=hr.2.2.1;unfold maxLen at hm;by_cases h20:len≤20
 · have HV:=lH (show JP l=zI l by unfold JP;rw[decide_eq_true (by omega)];rfl);rcases hr.form with h0 | ⟨b,off,rfl⟩
   · subst h0;have HE:=lH (show JP l=true by rw[HV.out,List.eq_nil_of_length_eq_zero hl];rfl);clear hr hl hf;go_enter Try.func29,Try.ntmps29;go_wp2;refine wp_loop_rounds 1 ?_;rw[rounds_succ];go_wp2;go_ret;exact⟨je HE.out.symm,rfl⟩
   · have HR:=lH hr;have HL:=lH hl;have HF:=lH hf;clear hr hl hf;go_enter Try.func29,Try.ntmps29;go_wp2;go_loop [3] (fun i=>∃k:Nat,k≤len∧i=.int .i64 k∧zI (l.drop k)=zI l) (fun i=>len-(intOf i).toNat)
     case atStart=>exact⟨0,Nat.zero_le _,rfl,rfl⟩
     case round =>
      obtain⟨k,hk,rfl,hrest⟩:=hrel;have HS:=lH hrest;clear hrest;by_cases hlt:k<len
      · obtain⟨hb,c1,c2⟩:=HR.out.cells hlt;have HI:=lH (show k<l.length by rw[HL.out];exact hlt);have hz:=(HF.out k HI.out).1;unfold maxLen at hz;by_cases e:(nm l k).size≤50
        · have E:=lH (show zI (l.drop k)=zI (l.drop (k+1)) by rw[drop_cons HI.out,zI,decide_eq_true e];rfl);go_wp2;go_round
          case rel=>exact⟨k+1,by omega,by go_num,E.out.symm.trans HS.out⟩
          case measure=>simp[intOf];omega
        · have E:=lH (show zI (l.drop k)=false by rw[drop_cons HI.out,zI,decide_eq_false e];rfl);have e':50<(nm l k).size:=by omega
          clear e;go_wp2;go_ret;exact⟨je (HV.out.trans (HS.out.symm.trans E.out)).symm,rfl⟩
      · have HI:=lH (show zI (l.drop k)=true by rw[List.drop_of_length_le (by rw[HL.out];omega),zI]);go_wp2;go_ret;exact⟨je (HV.out.trans (HS.out.symm.trans HI.out)).symm,rfl⟩
 · have HV:=lH (show JP l=false by unfold JP;rw[decide_eq_false (by omega)];rfl);have h9:20<len:=by omega
   clear h20 hr hl hf;go_enter Try.func29,Try.ntmps29;go_wp2;go_ret;exact⟨je HV.out.symm,rfl⟩
theorem Zu {w W:World} {p q:Prop} (h:p∧q∧Kept w W):Kept w W:=h.2.2
theorem XX {w W W':World} {a b:Addr} {x y:Value} (h:W.cell? a=some x∧W.cell? b=some y∧Kept w W) (k:Kept W W'):W'.cell? a=some x∧W'.cell? b=some y∧Kept w W' :=
 ⟨cell_later k h.1,cell_later k h.2.1,h.2.2.trans k⟩
def jW (have_:V):V→Bool
 | []=>true
 | x::t=>decide (x.2≤jo have_ x.1)&&jW have_ t
def cellsOf:V→List Value
 | []=>[]
 | x::t=>.string x.1::.int .i64 x.2::cellsOf t
theorem JW:∀l m:V,cellsOf (l++m)=cellsOf l++cellsOf m
 | [],_=>rfl
 | x::t,m=>by simp only[List.cons_append,cellsOf,JW t m]
theorem jd8 (x:ByteArray×Int) (t:V):nm (x::t) 0=x.1:=rfl
theorem jd0 (x:ByteArray×Int) (t:V) (i:Nat):nm (x::t) (i+1)=nm t i:=rfl
theorem jdT (x:ByteArray×Int) (t:V):qn (x::t) 0=x.2:=rfl
theorem jea (x:ByteArray×Int) (t:V) (i:Nat):qn (x::t) (i+1)=qn t i:=rfl
theorem Xl:∀(l:V) (i:Nat),i<l.length→(cellsOf l)[i*2]?=some (.string (nm l i))∧(cellsOf l)[i*2+1]?=some (.int .i64 (qn l i))
 | [],i,h=>absurd h (by simp)
 | x::t,0,_=>⟨rfl,rfl⟩
 | x::t,i+1,h=>by
  have:=Xl t i (by simpa using h);rw[jd0,jea,show (i+1)*2=i*2+1+1 from by omega];exact this
theorem ZP:∀(l:V) (u:Value),u ∈ cellsOf l→u.oneCell'=true
 | x::t,u,h=>by
  simp only[cellsOf,List.mem_cons] at h;rcases h with rfl | rfl | h
  · rfl
  · rfl
  · exact ZP t u h
theorem zC.cons {x:ByteArray×Int} {t:V}:zC (x::t)↔(x.1.size≤maxLen∧-9223372036854775808≤x.2∧x.2≤9223372036854775807)∧zC t:=by
 constructor
 · intro h;exact⟨h 0 (by simp),fun i hi=>h (i+1) (by simpa using hi)⟩
 · rintro ⟨h0,h⟩ i hi
   cases i with
   | zero=>exact h0
   | succ i=>exact h i (by simpa using hi)
theorem zC.nil:zC []:=fun i hi=>absurd hi (by simp)
theorem zC.snoc:∀{l:V} {s:ByteArray} {n:Int},zC l→s.size≤maxLen→-9223372036854775808≤n→n≤9223372036854775807→zC (l++[(s,n)])
 | [],s,n,_,h1,h2,h3=>zC.cons.2 ⟨⟨h1,h2,h3⟩,zC.nil⟩
 | x::t,s,n,h,h1,h2,h3=>by
  rw[zC.cons] at h;exact zC.cons.2 ⟨h.1,h.2.snoc h1 h2 h3⟩
def jZ (e:TypeId) (w:World) (base:Nat) (v:Value) (l:V):Prop:=w.ownsRow base e 2 v l.length (cellsOf l)∧zC l
theorem jZ.nil (e:TypeId) (w:World) (base:Nat):jZ e w base (.slice none 0 0) []:=⟨World.ownsRow_nil w base e 2,zC.nil⟩
theorem jZ.at_ {e:TypeId} {w:World} {base:Nat} {v:Value} {l:V} (h:jZ e w base v l) :
 ∃a cap,v=.slice a l.length cap∧l.length≤cap∧cap≤maxLen∧jH w a l.length l:=by
 obtain⟨h,hf⟩:=h;have h':=h;obtain⟨_,h1⟩:=h;rcases h1 with ⟨rfl,h0⟩ | ⟨g,cap,cur,rfl,hbg,hg,hn,hm,hs,ht⟩
 · have:l=[]:=List.eq_nil_of_length_eq_zero h0;subst this;exact⟨none,0,rfl,Nat.le_refl _,by decide,jH.nil w⟩
 · refine⟨_,cap,rfl,hn,hm,rfl,Nat.le_trans hn hm,hf,.inr ⟨g,0,rfl,?_,fun i hi=>?_⟩⟩
   · rcases Nat.lt_or_ge g w.heap.size with hlt | hge
     · exact hlt
     · rw[Array.getElem?_eq_none hge] at hg;cases hg
   · have c:=h'.cells (g:=g) rfl;have d:=Xl l i hi;have c1:=c _ _ d.1;have c2:=c _ _ d.2;constructor
     · rw[←c1];congr 1;unfold Addr.add;split<;>simp_all
     · rw[←c2];congr 1
theorem jZ.kept {e:TypeId} {w w':World} {base:Nat} {v:Value} {l:V} (h:jZ e w base v l) (k:Kept w w'):jZ e w' base v l:=by
 obtain⟨⟨h0,h1⟩,hf⟩:=h;refine⟨⟨h0,h1.imp id ?_⟩,hf⟩;rintro ⟨g,cap,cur,rfl,hbg,hg,hn,hm,hs,ht⟩;refine⟨g,cap,cur,rfl,hbg,?_,hn,hm,hs,ht⟩;have hlt:g<w.heap.size:=by
  rcases Nat.lt_or_ge g w.heap.size with hlt | hge
  · exact hlt
  · rw[Array.getElem?_eq_none hge] at hg;cases hg
 exact(k.block g hlt).trans hg
theorem jds (w:World) (s:ByteArray) (n:Int) (T:TypeId):∀j u,[Value.string s,.int .i64 n][j]?=some u →
 (w.alloc (.cells #[.string s,.int .i64 n] T)).cell? ((⟨w.heap.size,0,none⟩:Addr).add j)=some u :=
 World.news_of_block (cs:=#[.string s,.int .i64 n]) (t:=T) (fr:=(0,0)) (w.alloc_heap_new _)
def zA:V→ByteArray→Int×V
 | [],_=>(0,[])
 | x::t,n=>if eqS x.1 n=true then (x.2,t) else (0,x::t)
def jS:V→V→ByteArray
 | [],[]=>ByteArray.empty
 | [],y::_=>y.1
 | x::_,[]=>x.1
 | x::_,y::_=>if ltS y.1 x.1=true then y.1 else x.1
def Reads (w:World) (v:Value) (l:V):Prop:=∃a cap,v=.slice a l.length cap∧l.length≤cap∧cap≤maxLen∧jH w a l.length l
theorem Reads.kept {w w':World} {v:Value} {l:V} (h:Reads w v l) (k:Kept w w'):Reads w' v l:=by
 obtain⟨a,cap,e,h1,h2,h3⟩:=h;exact⟨a,cap,e,h1,h2,h3.kept k⟩
theorem jH.first {w:World} {b off len:Nat} {x:ByteArray×Int} {t:V} (h:jH w (some ⟨b,off,none⟩) len (x::t)) :
 b<w.heap.size∧w.cell? ⟨b,off,none⟩=some (.string x.1)∧w.cell? ⟨b,off+1,none⟩=some (.int .i64 x.2):=by
 have hl:0<len:=by have:=h.1;simp only[List.length_cons] at this;omega
 have:=h.cells hl;simpa [jd8,jdT] using this
def zb (x y:Int):Int×Int:=if x+y≤9223372036854775807 then (x+y,0) else (0,5)
theorem jdS {x y:Int} (h:0≤x∧x≤9223372036854775807) (g:0≤y∧y≤9223372036854775807):0≤(zb x y).1∧(zb x y).1≤9223372036854775807:=by
 unfold zb;split
 · dsimp only;omega
 · decide
def qp (acc:V) (s:ByteArray) (n:Int):V:=if n=0 then acc else acc++[(s,n)]
def Yb (f:Int→Int→Int×Int):Nat→V→V→V→Int×V
 | 0,_,_,acc=>(0,acc)
 | fuel+1,la,lb,acc =>
  if la.length+lb.length=0 then (0,acc)
  else
   let s:=jS la lb
   let r:=f (zA la s).1 (zA lb s).1
   if r.2≠0 then (r.2,[]) else Yb f fuel (zA la s).2 (zA lb s).2 (qp acc s r.1)
def jK (f:Int→Int→Int×Int) (l l':V):Int×V :=
 if jn l≠0 then (jn l,[])
 else if jn l'≠0 then (jn l',[])
 else
  let r:=Yb f (l.length+l'.length) l l' []
  if r.1≠0 then (r.1,[]) else if 8<r.2.length then (4,[]) else (0,r.2)
theorem JU (s:ByteArray):eqS s s=true:=by unfold eqS;exact beq_self_eq_true _
theorem zr (x:ByteArray×Int) (t:V) (n:ByteArray):zA (x::t) n=if eqS x.1 n=true then (x.2,t) else (0,x::t):=rfl
theorem zY (x y:ByteArray×Int) (s t:V):jS (x::s) (y::t)=if ltS y.1 x.1=true then y.1 else x.1:=rfl
theorem YK {l:V} (h:jn l=0):l.length≤8:=by
 unfold jn at h;split at h
 · cases h
 · omega
def Xn (r:Int×V) (base:Nat) (w:World) (e:Ending) (w':World):Prop :=
 (r.1=0→∃v,e=.returned v∧jZ 114 w' base v r.2)∧(r.1≠0→e=.panicked [zQ r.1])∧Below base w w'
theorem Xn.good {r:Int×V} {base:Nat} {w w':World} {v:Value} (h:r.1=0) (ho:jZ 114 w' base v r.2) (hb:Below base w w'):Xn r base w (.returned v) w':=⟨fun _=>⟨v,rfl,ho⟩,fun g=>absurd h g,hb⟩
theorem Xn.bad {r:Int×V} {base:Nat} {w w':World} {c:Int} (h:r.1=c) (hc:c≠0) (hb:Below base w w'):Xn r base w (.panicked [zQ c]) w':=⟨fun g=>absurd (h.symm.trans g) hc,fun _=>by rw[h],hb⟩
theorem jZ.base_le {e:TypeId} {w:World} {B B':Nat} {v:Value} {l:V} (h:jZ e w B' v l) (hb:B≤B'):jZ e w B v l:=by
 obtain⟨⟨h0,h1⟩,hf⟩:=h;refine⟨⟨h0,h1.imp id ?_⟩,hf⟩;rintro ⟨g,cap,cur,rfl,hbg,rest⟩;exact⟨g,cap,cur,rfl,Nat.le_trans hb hbg,rest⟩
def jej (r:Int×V) (w:World) (e:Ending) (w':World):Prop :=
 ∃v,e=.returned (.tuple #[v,.int .i64 r.1])∧jZ 114 w' w.heap.size v r.2∧Kept w w'
end Go.Proofs.Ytgfoenfaohhjcaa.Vec
namespace Go.Proofs.Ytgfoenfaohhjcaa
open Go.RowKit
theorem zM {α:Type} {l:List α} {k:Nat} (h:¬k<l.length):l.drop k=[]:=List.drop_of_length_le (by omega)
theorem all_cons {α:Type} (f:α→Bool) (x:α) (t:List α):(x::t).all f=(f x&&t.all f):=rfl
theorem zh {α:Type} {l:List α} {k:Nat} {x:α} (h:l[k]?=some x):l.take (k+1)=l.take k++[x]:=by rw[List.take_add_one,h];rfl
theorem Own.snoc {α:Type} {L:Lay α} {e:TypeId} {w:World} {base n:Nat} {v:Value} {l:List α} {x:α} (h:w.ownsRow base e L.m v n (jc L l++L.cs x)) (hn:l.length+1=n) (hf:∀z ∈ l,L.fine z) (hx:L.fine x):Own L e w base v (l++[x]):=by
 refine⟨?_,fun z hz=>?_⟩
 · rw[List.length_append,JD];show w.ownsRow base e L.m v (l.length+1) (jc L l++jc L [x]);rw[hn];have e:jc L [x]=L.cs x:=by unfold jc;simp
   rw[e];exact h
 · rcases List.mem_append.1 hz with g | g
   · exact hf z g
   · have:z=x:=by simpa using g
     rw[this];exact hx
def Say (v:Value) (w:World) (e:Ending) (w':World):Prop:=e=.returned v∧Kept w w'
theorem Reads.nil {α:Type} {L:Lay α} (w:World):Reads L w (.slice none 0 0) []:=⟨none,0,rfl,Nat.le_refl _,by decide,ji.nil w none⟩
theorem Reads.fine {α:Type} {L:Lay α} {v:Value} {l:List α} {w:World} (h:Reads L w v l):∀x ∈ l,L.fine x:=by
 obtain⟨a,cap,rfl,h1,h2,h3⟩:=h;exact h3.2.2.1
theorem ji.part {α:Type} {L:Lay α} {w:World} {b off len:Nat} {l:List α} (h:ji L w (some ⟨b,off,none⟩) len l) (i n:Nat) (hi:i+n≤len) :
 ji L w (some ⟨b,off+i*L.m,none⟩) n ((l.drop i).take n):=by
 obtain⟨h0,h1,h2,h3⟩:=h;refine⟨by rw[List.length_take,List.length_drop];omega,by omega,fun x hx=>h2 x (List.mem_of_mem_drop (List.mem_of_mem_take hx)),?_⟩;rcases h3 with h3 | ⟨b',off',e,hb,hc⟩
 · exact .inl (by omega)
 · injection e with e;injection e with e1 e2 e3;subst e1;subst e2;refine .inr ⟨b,_,rfl,hb,fun k x j u hk hj=>?_⟩;have hkn:k<n:=by have:=(List.getElem?_eq_some_iff.1 hk).1;rw[List.length_take] at this;omega
   have hk':l[i+k]?=some x:=by
    rw[List.getElem?_take,if_pos hkn,List.getElem?_drop] at hk;exact hk
   have:=hc (i+k) x j u hk' hj;rw[show off+i*L.m+k*L.m+j=off+(i+k)*L.m+j by rw[Nat.add_mul];omega];exact this
open Go.RowKit Go.Shelf
def bytes (l:List UInt8):ByteArray:=⟨l.toArray⟩
theorem Zc (s:ByteArray):bytes s.data.toList=s:=by apply Go.WideShapes.bytes_inj;simp[bytes]
attribute [local go_sem] Oper.semAt_some
structure St (b2 D:Nat) (W W':World):Prop where
 os:W'.os=W.os
 tape:W'.tape=W.tape
 output:W'.output=W.output
 size:W.heap.size≤W'.heap.size
 block:∀b,b≠b2→b≠D→b≠D+1→W'.heap[b]?=W.heap[b]?
theorem St.setCell {b2 D:Nat} (W:World) (v:Value):St b2 D W (W.setCell ⟨b2,0,none⟩ v) :=
 ⟨rfl,rfl,rfl,by show W.heap.size≤(W.heap.modify _ _).size;rw[Array.size_modify];exact Nat.le_refl _,fun b h _ _=>Below.heap_setCell W ⟨b2,0,none⟩ v b h⟩
theorem St.drewN {b2 D:Nat} (W:World) (n:Nat):St b2 D W (W.drewN n):=⟨rfl,rfl,rfl,Nat.le_refl _,fun _ _ _ _=>rfl⟩
theorem St.put {b2 D:Nat} (W:World) (o:Obj):St b2 D W (W.putObj (D+1) o):=⟨rfl,rfl,rfl,by simp,fun b _ _ h=>World.putObj_heap_other h⟩
def KeptAt (b1 b2 b3 D:Nat) (W W':World):Prop:=∀b,b=b1∨b=b2∨b=b3∨b=D∨b=D+1→W'.heap[b]?=W.heap[b]?
theorem KeptAt.trans {b1 b2 b3 D:Nat} {A B C:World} (h:KeptAt b1 b2 b3 D A B) (k:KeptAt b1 b2 b3 D B C):KeptAt b1 b2 b3 D A C:=fun b hb=>(k b hb).trans (h b hb)
theorem KeptAt.drewN {b1 b2 b3 D:Nat} (W:World) (n:Nat):KeptAt b1 b2 b3 D W (W.drewN n):=fun _ _=>rfl
end Go.Proofs.Ytgfoenfaohhjcaa
namespace Go.Proofs.Ytgfoenfaohhjcaa
open Go.RowKit Go.Shelf
attribute [local go_sem] Oper.semAt_some
theorem Own.row {α:Type} {L:Lay α} {e:TypeId} {w:World} {B n:Nat} {v:Value} {l:List α} (h:Own L e w B v l) (hn:l.length=n):w.ownsRow B e L.m v n (jc L l):=hn▸h.1
def Xs {α:Type} (L:Lay α) (e:TypeId) (r:Int×List α) (base:Nat) (w:World) (en:Ending) (w':World):Prop :=
 (r.1=0→∃v,en=.returned v∧Own L e w' base v r.2)∧(r.1≠0→en=.panicked [zQ r.1])∧Below base w w'
theorem Xs.good {α:Type} {L:Lay α} {e:TypeId} {r:Int×List α} {base:Nat} {w w':World} {v:Value} (h:r.1=0) (ho:Own L e w' base v r.2) (hb:Below base w w'):Xs L e r base w (.returned v) w':=⟨fun _=>⟨v,rfl,ho⟩,fun g=>absurd h g,hb⟩
theorem Xs.bad {α:Type} {L:Lay α} {e:TypeId} {r:Int×List α} {base:Nat} {w w':World} {c:Int} (h:r.1=c) (hc:c≠0) (hb:Below base w w'):Xs L e r base w (.panicked [zQ c]) w':=⟨fun g=>absurd (h.symm.trans g) hc,fun _=>by rw[h],hb⟩
end Go.Proofs.Ytgfoenfaohhjcaa
namespace Go.Proofs.Ytgfoenfaohhjcaa.Vec
open Go.RowKit
def nameOf (p:List UInt8):List UInt8:=(Lib.cut p [61]).1
def jcf (p:List UInt8):List UInt8:=(Lib.cut p [61]).2.1
end Go.Proofs.Ytgfoenfaohhjcaa.Vec
namespace Go.Proofs.Ytgfoenfaohhjcaa.Vec
open Go.RowKit Go.Shelf
attribute [local go_sem] Oper.semAt_some
theorem jZ.put {e:TypeId} {w:World} {B D:Nat} {v:Value} {l:V} (h:jZ e w B v l) (hD:D<B) (o:Obj):jZ e (w.putObj D o) B v l:=by
 obtain⟨⟨h0,h1⟩,hf⟩:=h;refine⟨⟨h0,h1.imp id ?_⟩,hf⟩;rintro ⟨g,cap,cur,rfl,hbg,hg,rest⟩;exact⟨g,cap,cur,rfl,hbg,(World.putObj_heap_other (by omega)).trans hg,rest⟩
theorem jZ.row {e:TypeId} {w:World} {B n:Nat} {v:Value} {l:V} (h:jZ e w B v l) (hn:l.length=n):w.ownsRow B e 2 v n (cellsOf l):=hn▸h.1
end Go.Proofs.Ytgfoenfaohhjcaa.Vec
namespace Go.Proofs.Ytgfoenfaohhjcaa.Vec
open Go.RowKit Go.Shelf
def Xu (b:Nat) (w w':World):Prop:=∀g cs fr,g≠b→w.heap[g]?=some (.cells cs 114 fr)→w'.heap[g]?=w.heap[g]?
theorem Xu.trans {b:Nat} {x y z:World} (h:Xu b x y) (k:Xu b y z):Xu b x z:=fun g cs fr hg hc=>(k g cs fr hg ((h g cs fr hg hc).trans hc)).trans (h g cs fr hg hc)
open Go.RowKit
theorem Reads.nil (w:World):Reads w (.slice none 0 0) []:=⟨none,0,rfl,Nat.le_refl _,by decide,jH.nil w⟩
theorem zR {v:Value} {l:V} {c:Int} {w:World} (h:Reads w v l) (e:jn l=c) :
 Calls Try.prog 34 #[v] w fun x w'=>x=.returned (.int .i64 c)∧Kept w w':=by
 subst e;obtain⟨a,cap,rfl,h1,h2,h3⟩:=h;exact JQ a _ cap l w h3
theorem jal {v:Value} {l:V} {c:Bool} {w:World} (h:Reads w v l) (e:JP l=c) :
 Calls Try.prog 29 #[v] w fun x w'=>x=.returned (.bool c)∧w=w':=by
 subst e;obtain⟨a,cap,rfl,h1,h2,h3⟩:=h;exact XM a _ cap l w h3
theorem jaR:(Try.prog.info? 128).map (fun i=>(i.zero,i.size,i.bytes))=some (some (.agg #[.string ByteArray.empty,.int .i64 0]),2,24):=by kernel_rfl
theorem qd {l:V} {k:Nat} (h:k<l.length):l.take (k+1)=l.take k++[(nm l k,qn l k)]:=by
 rw[List.take_add_one];congr 1;have:l.getD k (ByteArray.empty,0)=l[k]:=by simp[List.getD,h]
 have e:(nm l k,qn l k)=l[k]:=by simp only[nm,qn,this]
 rw[e];simp[h]
theorem Xj (a:Option Addr) (len cap:Nat) (l:V) (w:World) (hr:jH w a len l) (hlen:len≤1000000) :
 Calls Try.prog 38 #[.slice a len cap] w (fun e w'=>∃x,e=.returned x∧jZ 128 w' w.heap.size x l∧Kept w w'):=by
 have hl:=hr.1;obtain⟨i0,hi,hz0,hz1,hz2⟩:=info_parts jaR;rcases hr.form with h0 | ⟨b,off,rfl⟩
 · subst h0;have hl0:l=[]:=List.eq_nil_of_length_eq_zero hl;subst hl0;clear hr hl hi hz0 hz1 hz2;go_enter Try.func38,Try.ntmps38;go_wp2;refine wp_loop_rounds 1 ?_;rw[rounds_succ];go_wp2;go_ret;exact⟨_,rfl,jZ.nil _ _ _,Kept.refl _⟩
 · have HR:=lH hr;have HL:=lH hl;have HF:=lH hr.2.2.1;clear hr hl;go_enter Try.func38,Try.ntmps38;go_wp2;go_loopw [3,4] (fun v i wr=>∃k:Nat,k≤len∧i=.int .i64 k∧jZ 128 wr w.heap.size v (l.take k)∧Below w.heap.size w wr) (fun _ i _=>len-(intOf i).toNat)
   case atStart=>exact⟨0,Nat.zero_le _,rfl,jZ.nil _ _ _,Below.refl _ _⟩
   case round =>
    obtain⟨k,hk,rfl,ho,hB⟩:=hrel;have HO:=lH ho;have HB:=lH hB;have HT:=lH (show (l.take k).length=k by rw[List.length_take,HL.out];omega);have HOWN:=lH (show wr.ownsRow w.heap.size 128 2 u3 k (cellsOf (l.take k)) by have:=HO.out.1;rw[HT.out] at this;exact this);by_cases hlt:k<len
    · obtain⟨hb,c1,c2⟩:=(HR.out.kept hB).cells hlt;have HI:=lH (show k<l.length by rw[HL.out];exact hlt);have hbw:b<w.heap.size:=(HR.out.cells hlt).1;have hbase:w.heap.size≤wr.heap.size:=hB.size;have HNE:=lH (show u3.ownBlock≠some b by
       intro e;have:=(HOWN.out.lt b e).1;omega)
      have HBASE:=lH (show w.heap.size≤(wr.alloc (.cells #[.string (nm l k),.int .i64 (qn l k)] 128)).drew.heap.size by simp;omega);have HBD:=lH (show Below w.heap.size w ((wr.alloc (.cells #[.string (nm l k),.int .i64 (qn l k)] 128)).drew) from HB.out.trans (Below.mono ((ja wr _).trans (Kept.drewN _ 1)) hbase));have hk1:(k:Int)<(len:Int):=by omega
      have HFK:=lH (HF.out k HI.out);clear ho hB;go_wp2_with fail
      go_region_held3 (fun W=>W.cell? ⟨b,off+k*2,none⟩=some (.string (nm l k))∧W.cell? ⟨b,off+k*2+1,none⟩=some (.int .i64 (qn l k)))
       (first
         | go_keep
         | (go_split_ands
            refine⟨?_,?_⟩
            · (refine(hgrow.cell_far ⟨b,off+k*2,none⟩ (by simp;omega) (Ne.symm HNE.out)).trans ?_;assumption)
            · (refine(hgrow.cell_far ⟨b,off+k*2+1,none⟩ (by simp;omega) (Ne.symm HNE.out)).trans ?_;assumption)))
       ((refine step_append_lies _ (by rfl) _ _ _ (by rfl) w.heap.size 128 i0 _ 2 24 Try.underlying40 hi hz0 hz1 hz2 rfl (by decide) u3 k (cellsOf (l.take k)) (by rfl) ((HOWN.out.alloc _).drew)
          ⟨wr.heap.size,0,none⟩ 1 1 [.string (nm l k),.int .i64 (qn l k)] (by rfl) (by rfl) (World.news_of_block (cs:=#[.string (nm l k),.int .i64 (qn l k)]) (t:=128) (fr:=(0,0)) (heap_alloc_new wr _)) (ZP [(nm l k,qn l k)])
          (by decide) (by unfold maxLen;omega) (by omega) (by simp;omega) (wr.heap.size+1) (by simp) ?_;intro gg cap1 w1 hown1 hgrow hat hlt1))
      all_goals
       go_wp2;go_roundw
       case rel=>exact⟨k+1,by omega,by go_num,⟨by rw[qd HI.out,JW,List.length_append,HT.out];exact hown1,by rw[qd HI.out];exact HO.out.2.snoc HFK.out.1 HFK.out.2.1 HFK.out.2.2⟩,HBD.out.grown hgrow HBASE.out (fun j hj=>(HOWN.out.lt j hj).1)⟩
       case measure=>simp[intOf];omega
    · have HK:=lH (show l.take k=l by rw[List.take_of_length_le (by rw[HL.out];omega)]);clear ho hB;go_wp2;go_ret;exact⟨_,rfl,by have h:=HO.out;rw[HK.out] at h;exact h,HB.out⟩
theorem YX:∀s:List UInt8,Op.bytesLess s s=false
 | []=>rfl
 | a::s=>by
  have:¬a<a:=UInt8.lt_irrefl a;simp[Op.bytesLess,YX s,this]
theorem Xp:∀{a b c:List UInt8},Op.bytesLess a b=true→Op.bytesLess b c=true→Op.bytesLess a c=true
 | _,_,[],_,h=>by simp[Op.bytesLess] at h
 | [],_,_::_,_,_=>by simp[Op.bytesLess]
 | x::a,[],z::c,h,_=>by simp[Op.bytesLess] at h
 | x::a,y::b,z::c,h,g=>by
  simp only[Op.bytesLess,Bool.or_eq_true,Bool.and_eq_true,decide_eq_true_eq,beq_iff_eq] at h g ⊢;rcases h with h | ⟨rfl,h⟩
  · rcases g with g | ⟨rfl,g⟩
    · exact .inl (UInt8.lt_trans h g)
    · exact .inl h
  · rcases g with g | ⟨rfl,g⟩
    · exact .inl g
    · exact .inr ⟨rfl,Xp h g⟩
theorem jac:∀{a b:List UInt8},Op.bytesLess a b=false→Op.bytesLess b a=false→a=b
 | [],[],_,_=>rfl
 | [],_::_,h,_=>by simp[Op.bytesLess] at h
 | _::_,[],_,h=>by simp[Op.bytesLess] at h
 | x::a,y::b,h,g=>by
  simp only[Op.bytesLess,Bool.or_eq_false_iff,decide_eq_false_iff_not,Bool.and_eq_false_iff,beq_eq_false_iff_ne] at h g;have e:x=y:=by
   have h1:=UInt8.not_lt.1 h.1;have h2:=UInt8.not_lt.1 g.1;exact UInt8.le_antisymm h2 h1
  subst e;have h2:=h.2.resolve_left (by simp);have g2:=g.2.resolve_left (by simp);rw[jac h2 g2]
theorem qs (s t:ByteArray):ltS s t=Op.bytesLess s.data.toList t.data.toList:=by unfold ltS;rw[Lib.toList_data,Lib.toList_data]
theorem jJ {s t:ByteArray}:eqS s t=true↔s=t:=by
 unfold eqS;rw[Lib.toList_data,Lib.toList_data,beq_iff_eq];exact⟨fun h=>Go.WideShapes.bytes_inj h,fun h=>by rw[h]⟩
theorem Z4 (s:ByteArray):ltS s s=false:=by rw[qs];exact YX _
theorem zy {s t u:ByteArray} (h:ltS s t=true) (g:ltS t u=true):ltS s u=true:=by
 rw[qs] at *;exact Xp h g
theorem YO {s t:ByteArray} (h:ltS s t=false) (g:ltS t s=false):s=t:=by
 rw[qs] at *;exact Go.WideShapes.bytes_inj (jac h g)
theorem Zf {s t:ByteArray} (h:ltS s t=true):s≠t:=by rintro rfl;rw[Z4] at h;cases h
theorem X8 {s t:ByteArray} (h:ltS s t=true) (g:ltS t s=true):False:=Zf (zy h g) rfl
def Gd (l:V):Prop:=(∀x ∈ l,isName x.1=true∧0<x.2∧x.2≤9223372036854775807)∧l.Pairwise (fun x y=>ltS x.1 y.1=true)
theorem Gd.nil:Gd []:=⟨fun x hx=>absurd hx (by simp),.nil⟩
theorem Gd.cons {x:ByteArray×Int} {t:V}:Gd (x::t)↔(isName x.1=true∧0<x.2∧x.2≤9223372036854775807)∧(∀y ∈ t,ltS x.1 y.1=true)∧Gd t:=by
 unfold Gd;rw[List.pairwise_cons,List.forall_mem_cons];constructor
 · rintro ⟨⟨a,b⟩,c,d⟩;exact⟨a,c,b,d⟩
 · rintro ⟨a,c,b,d⟩;exact⟨⟨a,b⟩,c,d⟩
theorem Zt (x:ByteArray×Int) (t:V):jo (x::t) x.1=x.2:=by rw[jo,if_pos (jJ.2 rfl)]
theorem Jh {x:ByteArray×Int} {n:ByteArray} (t:V) (h:x.1≠n):jo (x::t) n=jo t n:=by rw[jo,if_neg (fun e=>h (jJ.1 e))]
theorem qW:∀{l:V} {n:ByteArray},(∀y ∈ l,y.1≠n)→jo l n=0
 | [],_,_=>rfl
 | x::t,n,h=>by rw[Jh t (h x (by simp))];exact qW fun y hy=>h y (by simp[hy])
theorem get_mem:∀{l:V} {n:ByteArray},jo l n≠0→∃y ∈ l,y.1=n
 | [],_,h=>absurd rfl h
 | x::t,n,h=>by
  by_cases e:x.1=n
  · exact⟨x,by simp,e⟩
  · rw[Jh t e] at h;obtain⟨y,hy,hn⟩:=get_mem h;exact⟨y,by simp[hy],hn⟩
theorem YE:∀{l:V} (n:ByteArray),Gd l→0≤jo l n∧jo l n≤9223372036854775807
 | [],_,_=>⟨Int.le_refl _,(by decide:(0:Int)≤9223372036854775807)⟩
 | x::t,n,h=>by
  have h':=Gd.cons.1 h;by_cases e:x.1=n
  · subst e;rw[Zt];omega
  · rw[Jh t e];exact YE n h'.2.2
theorem jct:∀{l:V} {x:ByteArray×Int},Gd l→x ∈ l→jo l x.1=x.2
 | [],_,_,h=>absurd h (by simp)
 | y::t,x,h,hx=>by
  have h':=Gd.cons.1 h;rcases List.mem_cons.1 hx with rfl | hx
  · exact Zt _ _
  · rw[Jh t (Zf (h'.2.1 x hx))];exact jct h'.2.2 hx
theorem jbK {l:V} {n:ByteArray} (h:∀y ∈ l,ltS n y.1=true):jo l n=0:=qW fun y hy=>(Zf (h y hy)).symm
theorem Gd.len:∀{b r:V},Gd r→Gd b→(∀n,jo r n≠0→jo b n≠0)→r.length≤b.length
 | [],[],_,_,_=>Nat.le_refl _
 | [],x::s,hr,_,h=>by
  have:=h x.1;rw[Zt] at this;have h1:=(Gd.cons.1 hr).1;exact absurd rfl (this (by omega))
 | y::t,[],_,_,_=>Nat.zero_le _
 | y::t,x::s,hr,hb,h=>by
  have hr':=Gd.cons.1 hr;have hb':=Gd.cons.1 hb;have:s.length≤t.length:=Gd.len hr'.2.2 hb'.2.2 fun n hn=>by
   obtain⟨z,hz,rfl⟩:=get_mem hn;have hlt:=hr'.2.1 z hz;have hb2:=h z.1 (by rw[Jh s (Zf hlt)];exact hn);by_cases e:y.1=z.1
   · obtain⟨u,hu,hux⟩:=get_mem (h x.1 (by rw[Zt];omega));rcases List.mem_cons.1 hu with rfl | hu
     · rw[←hux,e,Z4] at hlt;cases hlt
     · have:=hb'.2.1 u hu;rw[hux,e] at this;exact(X8 hlt this).elim
   · rw[Jh t e] at hb2;exact hb2
  simp only[List.length_cons];omega
theorem Yp {s t:ByteArray} (h:leS s t=false):ltS t s=true:=by
 unfold leS at h;rw[Bool.or_eq_false_iff] at h
 cases e:ltS t s with
 | true=>rfl
 | false=>rw[YO h.1 e,jJ.2 rfl] at h;cases h.2
theorem JR {l:V} (h:jn l=0) (hf:zC l):Gd l:=by
 have h2:jD none l=0:=by
  unfold jn at h;split at h
  · cases h
  · exact h
 have key:∀(l:V) (p:Option ByteArray),jD p l=0→zC l→Gd l∧(∀x,p=some x→∀y ∈ l,ltS x y.1=true):=by
  intro l
  induction l with
  | nil=>intro p _ _;exact⟨Gd.nil,fun _ _ y hy=>absurd hy (by simp)⟩
  | cons x t ih =>
   intro p hc hf;rw[zC.cons] at hf;unfold jD at hc;split at hc
   · cases hc
   · rename_i n1;split at hc
     · cases hc
     · rename_i n2;split at hc
       · cases hc
       · rename_i n3;obtain⟨hg,hall⟩:=ih _ hc hf.2;have hx:=hall x.1 rfl;refine⟨Gd.cons.2 ⟨⟨by simpa using n1,by omega,hf.1.2.2⟩,hx,hg⟩,?_⟩;rintro q rfl y hy;have hq:ltS q x.1=true:=Yp (by simpa [jm] using n3);rcases List.mem_cons.1 hy with rfl | hy
         · exact hq
         · exact zy hq (hx y hy)
 exact(key l none h2 hf).1
theorem qe {l:V} {s:ByteArray} (hg:Gd l) (h:∀y ∈ l,y.1=s∨ltS s y.1=true) :
 (zA l s).1=jo l s∧Gd (zA l s).2∧(∀y ∈ (zA l s).2,ltS s y.1=true)∧(∀n,n≠s→jo (zA l s).2 n=jo l n)∧(∀m,(∀y ∈ l,ltS m y.1=true)→∀y ∈ (zA l s).2,ltS m y.1=true):=by
 cases l with
 | nil=>exact⟨rfl,hg,fun y hy=>absurd hy (by simp[zA]),fun _ _=>rfl,fun _ _ y hy=>absurd hy (by simp[zA])⟩
 | cons x t =>
  have hg':=Gd.cons.1 hg;rw[zr];by_cases e:x.1=s
  · rw[if_pos (jJ.2 e)];subst e;exact⟨(Zt x t).symm,hg'.2.2,hg'.2.1,fun n hn=>(Jh t (Ne.symm hn)).symm,fun m hm y hy=>hm y (by simp[hy])⟩
  · rw[if_neg (fun c=>e (jJ.1 c))];have hx:ltS s x.1=true:=(h x (by simp)).resolve_left e;have hall:∀y ∈ x::t,ltS s y.1=true:=fun y hy=>by
     rcases List.mem_cons.1 hy with rfl | hy
     · exact hx
     · exact zy hx (hg'.2.1 y hy)
    exact⟨(jbK hall).symm,hg,hall,fun _ _=>rfl,fun m hm=>hm⟩
theorem ql {la lb:V} (ha:Gd la) (hb:Gd lb) (h:0<la.length+lb.length) :
 isName (jS la lb)=true∧(∀y ∈ la,y.1=jS la lb∨ltS (jS la lb) y.1=true)∧(∀y ∈ lb,y.1=jS la lb∨ltS (jS la lb) y.1=true) ∧
  (∀m,(∀y ∈ la,ltS m y.1=true)→(∀y ∈ lb,ltS m y.1=true)→ltS m (jS la lb)=true):=by
 have own:∀{x:ByteArray×Int} {t:V},Gd (x::t)→∀y ∈ x::t,y.1=x.1∨ltS x.1 y.1=true:=fun {x t} hg y hy=>by
  rcases List.mem_cons.1 hy with rfl | hy
  · exact .inl rfl
  · exact .inr ((Gd.cons.1 hg).2.1 y hy)
 cases la with
 | nil =>
  cases lb with
  | nil=>simp at h
  | cons y t=>exact⟨(Gd.cons.1 hb).1.1,fun z hz=>absurd hz (by simp),own hb,fun m _ hm=>hm y (by simp)⟩
 | cons x s =>
  cases lb with
  | nil=>exact⟨(Gd.cons.1 ha).1.1,own ha,fun z hz=>absurd hz (by simp),fun m hm _=>hm x (by simp)⟩
  | cons y t =>
   rw[zY];by_cases e:ltS y.1 x.1=true
   · rw[if_pos e];refine⟨(Gd.cons.1 hb).1.1,fun z hz=>.inr ?_,own hb,fun m _ hm=>hm y (by simp)⟩;rcases own ha z hz with hz | hz
     · rw[hz];exact e
     · exact zy e hz
   · rw[if_neg e];refine⟨(Gd.cons.1 ha).1.1,own ha,fun z hz=>?_,fun m hm _=>hm x (by simp)⟩;have e':ltS y.1 x.1=false:=by simpa using e
     have hxy:y.1=x.1∨ltS x.1 y.1=true:=by
      cases e2:ltS x.1 y.1 with
      | true=>exact .inr rfl
      | false=>exact .inl (YO e' e2)
     rcases own hb z hz with hz | hz
     · rw[hz];exact hxy
     · rcases hxy with hxy | hxy
       · rw[←hxy];exact .inr hz
       · exact .inr (zy hxy hz)
theorem Reads.fine {v:Value} {l:V} {w:World} (h:Reads w v l):zC l:=by
 obtain⟨a,cap,rfl,h1,h2,h3⟩:=h;exact h3.2.2.1
open Go.ChangeShapes Go.WideShapes Go.ChangeAt Go.RowKit Go.Deep
theorem jcD:Try.prog.cellsOf 114=2:=by kernel_rfl
theorem zW:Try.prog.cellsOf 9=1:=by kernel_rfl
theorem ZR:Try.prog.cellsOf 2=1:=by kernel_rfl
theorem XS {H:Type} {enc:TypeId×Value→H} {w:World} {base fuel:Nat} {sp:Nat→Bool} {held:Bool} {cs:List Value} {x:DataW H×List MemPlace} (h:DataW.trod enc Try.prog w base sp held fuel 114 cs=some x) :
 ∃(s:ByteArray) (n:Int),cs=[.string s,.int .i64 n]∧s.size≤maxLen∧-9223372036854775808≤n∧n≤9223372036854775807:=by
 obtain⟨ys,m,-,-,hlen,hyl,hf⟩:=DataW.trod_struct Try.underlying114 h;rw[jcD] at hlen
 match cs,hlen with
 | [c0,c1],_ =>
  have h0:DataW.trod enc Try.prog w base sp held m 9 (([c0,c1].drop 0).take (Try.prog.cellsOf 9))=ys[0]?:=hf 0 _ rfl;have h1:DataW.trod enc Try.prog w base sp held m 2 (([c0,c1].drop 1).take (Try.prog.cellsOf 2))=ys[1]?:=hf 1 _ rfl;rw[zW] at h0;rw[ZR] at h1;obtain⟨y0,e0⟩:∃y,ys[0]?=some y:=⟨_,List.getElem?_eq_getElem (by rw[hyl];decide)⟩
  obtain⟨y1,e1⟩:∃y,ys[1]?=some y:=⟨_,List.getElem?_eq_getElem (by rw[hyl];decide)⟩
  rw[e0] at h0;rw[e1] at h1;obtain⟨s,q0,-,hs⟩:=DataW.trod_string Try.underlying9 h0;obtain⟨n,q1,-,hn⟩:=DataW.trod_int Try.underlying2 h1;simp only[List.drop_zero,List.take_succ_cons,List.take_zero,List.cons.injEq,and_true,List.drop_succ_cons] at q0 q1;subst q0;subst q1;have:=bounds_i64 hn;exact⟨s,n,rfl,hs,this.1,this.2⟩
theorem ja9 {l m:V} {i:Nat} (h:i<l.length):nm (l++m) i=nm l i∧qn (l++m) i=qn l i:=by
 unfold nm qn;simp[List.getD,List.getElem?_append_left h]
theorem jaU (l:V) (s:ByteArray) (n:Int):nm (l++[(s,n)]) l.length=s∧qn (l++[(s,n)]) l.length=n:=by
 unfold nm qn;simp[List.getD]
theorem jY {H:Type} {enc:TypeId×Value→H} {w:World} {base fuel:Nat} {sp:Nat→Bool} {held:Bool} {v:Value} {x:DataW H×List MemPlace} (h:DataW.trod enc Try.prog w base sp held fuel 28 [v]=some x) :
 ∃l,Reads w v l:=by
 rcases open_slice Try.underlying28 h with ⟨hcs,-⟩ | ⟨a,len,cap,m,n,D,Pl,hcs,hb,hl,hm,hmm,hx,hi⟩
 · cases hcs;exact⟨[],Reads.nil w⟩
 · cases hcs
   have hlm:len≤m:=by rw[hmm];split<;>omega
   have key:∀k,k≤len→∃l:V,l.length=k∧∀i,i<k→((nm l i).size≤maxLen∧-9223372036854775808≤qn l i∧qn l i≤9223372036854775807) ∧
    w.cell? ((a.add (i*2)).add 0)=some (.string (nm l i))∧w.cell? ((a.add (i*2)).add 1)=some (.int .i64 (qn l i)):=by
    intro k
    induction k with
    | zero=>exact fun _=>⟨[],rfl,fun i hi=>absurd hi (by omega)⟩
    | succ k ih =>
     intro hk;obtain⟨l,e,hall⟩:=ih (by omega);obtain⟨cs',hc,ht'⟩:=hi k (by omega);obtain⟨s,q,rfl,b1,b2,b3⟩:=XS ht';rw[jcD] at hc;obtain⟨-,-,hat⟩:=World.cells?_some hc;refine⟨l++[(s,q)],by simp[e],fun i hi=>?_⟩;by_cases e2:i=k
     · subst e2;subst e;rw[(jaU l s q).1,(jaU l s q).2];exact⟨⟨b1,b2,b3⟩,hat 0 (by decide),hat 1 (by decide)⟩
     · rw[(ja9 (by omega)).1,(ja9 (by omega)).2];exact hall i (by omega)
   obtain⟨l,e,hall⟩:=key len (Nat.le_refl _);subst e;refine⟨l,_,cap,rfl,hl,hm,rfl,Nat.le_trans hl hm,fun i hi=>(hall i hi).1,?_⟩;by_cases h0:l.length=0
   · exact .inl h0
   · obtain⟨b,off,spot⟩:=a;have hc:=(hall 0 (by omega)).2.1;have hspot:spot=none:=by simpa [Addr.add] using World.cell?_spot hc
     subst hspot;have hcell:∀i,i<l.length→w.cell? ⟨b,off+i*2,none⟩=some (.string (nm l i))∧w.cell? ⟨b,off+i*2+1,none⟩=some (.int .i64 (qn l i)):=fun i hi=>by
      have c:=(hall i hi).2;by_cases hi0:i=0
      · subst hi0;simpa [Addr.add] using c
      · have h2:¬i*2=0:=by omega
        simpa [Addr.add,h2] using c
     exact .inr ⟨b,off,rfl,World.block_lt_of_cell? _ _ (hcell 0 (by omega)).1,hcell⟩
end Go.Proofs.Ytgfoenfaohhjcaa.Vec
namespace Go.Proofs.Ytgfoenfaohhjcaa
open Go.RowKit
abbrev PL:=List (ByteArray×ByteArray)
abbrev TL:=List (Int×ByteArray×ByteArray)
def jm (prev:Option ByteArray) (s:ByteArray):Bool:=match prev with | none=>false | some p=>leS s p
def Ze (l:PL) (k:Nat):Option ByteArray:=if k=0 then none else (l[k-1]?).map (·.1)
def zj:Option ByteArray→PL→Int
 | _,[]=>0
 | prev,x::t=>if (isName x.1&&isName x.2)=false then 3 else if jm prev x.1=true then 13 else zj (some x.1) t
def JK (l:PL):Int:=if 8<l.length then 4 else zj none l
theorem ZK {l:PL} {k:Nat} (h:k=0) (s:ByteArray):jm (Ze l k) s=false:=by unfold Ze;rw[if_pos h];rfl
theorem ZQ {l:PL} {k:Nat} {x y:ByteArray} (h:¬k=0) (hx:l[k-1]?=some (x,y)) (s:ByteArray):jm (Ze l k) s=leS s x:=by unfold Ze;rw[if_neg h,hx];rfl
theorem ZC {l:PL} {k:Nat} {x y:ByteArray} (hx:l[k]?=some (x,y)):Ze l (k+1)=some x:=by unfold Ze;rw[if_neg (by omega),Nat.add_sub_cancel,hx];rfl
theorem Yf {p:Option ByteArray} {x y:ByteArray} {t:PL} (n:(isName x&&isName y)=false):zj p ((x,y)::t)=3:=by rw[zj,if_pos n]
theorem Yx {p:Option ByteArray} {x y:ByteArray} {t:PL} (n1:isName x=true) (n2:isName y=true) (b:jm p x=true):zj p ((x,y)::t)=13:=by
 rw[zj,if_neg (by dsimp only;rw[n1,n2];decide),if_pos b]
theorem Zl {p:Option ByteArray} {x y:ByteArray} {t:PL} (n1:isName x=true) (n2:isName y=true) (b:jm p x=false):zj p ((x,y)::t)=zj (some x) t:=by
 rw[zj,if_neg (by dsimp only;rw[n1,n2];decide),if_neg (by dsimp only;rw[b];decide)]
def JY (t:Int×ByteArray×ByteArray):Int :=
 if t.1=1∨t.1=2 then (if (isName t.2.1&&isName t.2.2)=true then 0 else 3)
 else if t.1=3∨t.1=4 then (if (isName t.2.1&&eqS t.2.2 ByteArray.empty)=true then 0 else 3)
 else 1
def Zh:TL→Int
 | []=>0
 | t::r=>if JY t≠0 then JY t else Zh r
def Zr (l:TL):Int:=if 8<l.length then 4 else Zh l
theorem Jz {o:Int} {x y:ByteArray}:JY (o,x,y)=if o=1∨o=2 then (if (isName x&&isName y)=true then 0 else 3)
 else if o=3∨o=4 then (if (isName x&&eqS y ByteArray.empty)=true then 0 else 3) else 1:=rfl
theorem jbf (t:Int×ByteArray×ByteArray) (r:TL):Zh (t::r)=if JY t≠0 then JY t else Zh r:=rfl
def jr:PL→ByteArray→Option ByteArray
 | [],_=>none
 | x::t,n=>if eqS x.1 n=true then some x.2 else jr t n
def Zb (s:PL) (n:ByteArray):ByteArray:=(jr s n).getD ByteArray.empty
def Za (s:PL) (n:ByteArray):Bool:=(jr s n).isSome
theorem XZ (x y:ByteArray) (t:PL) (n:ByteArray):jr ((x,y)::t) n=if eqS x n=true then some y else jr t n:=rfl
theorem Zi {s:PL} {n:ByteArray} {o:Option ByteArray} (h:jr s n=o):Ending.returned (.tuple #[.string (o.getD ByteArray.empty),.bool o.isSome])=.returned (.tuple #[.string (Zb s n),.bool (Za s n)]):=by
 unfold Zb Za;rw[h]
theorem Yo {s:PL} {n v:ByteArray} (hf:∀x ∈ s,jl.fine x) (h:jr s n=some v):v.size≤maxLen:=by
 induction s with
 | nil=>cases h
 | cons x t ih =>
  rw[jr] at h;split at h
  · injection h with h;subst h;exact(hf x (by simp)).2
  · exact ih (fun y hy=>hf y (by simp[hy])) h
theorem jd5 (a:Option Addr) (len cap:Nat) (l:PL) (n:ByteArray) (w:World) (hr:ji jl w a len l) :
 Calls Try.prog 49 #[.slice a len cap,.string n] w fun e w'=>e=.returned (.tuple #[.string (Zb l n),.bool (Za l n)])∧Kept w w':=by
 have hl:=hr.1;have hm:=hr.2.1;unfold maxLen at hm;rcases hr.form with h0 | ⟨b,off,rfl⟩
 · subst h0;have HE:=lH (show jr l n=none by rw[List.eq_nil_of_length_eq_zero hl];rfl);clear hr hl;go_enter Try.func49,Try.ntmps49;go_wp2;refine wp_loop_rounds 1 ?_;rw[rounds_succ];go_wp2;go_ret2
   exact⟨Zi HE.out,Kept.refl _⟩
 · have HR:=lH hr;have HL:=lH hl;clear hr hl;go_enter Try.func49,Try.ntmps49;go_wp2;go_loopw [10] (fun i wr=>∃k:Nat,k≤len∧i=.int .i64 k∧jr (l.drop k) n=jr l n∧Kept w wr) (fun i _=>len-(intOf i).toNat)
   case atStart=>exact⟨0,Nat.zero_le _,rfl,rfl,Kept.refl _⟩
   case round =>
    obtain⟨k,hk,rfl,hrest,hK⟩:=hrel;by_cases hlt:k<len
    · obtain⟨x,y,hx,hd,hb,hz,hz2,c1,c2⟩:=(HR.out.kept hK).pair hlt;have HK:=lH hK;have HT:=lH (hrest.symm.trans ((congrArg (fun z=>jr z n) hd).trans (XZ _ _ _ _)));clear hK hrest hx hd;by_cases e:eqS x n=true
      · have E:=lH e;have e':(x.toList==n.toList)=true:=e;clear e;go_wp2;go_ret2
        exact⟨Zi (HT.out.trans (if_pos E.out)),HK.out.trans (ja _ _)⟩
      · have E:=lH e;have e':(x.toList==n.toList)=false:=by unfold eqS at e;simpa using e
        clear e;go_wp2;go_roundw
        case rel=>exact⟨k+1,by omega,by go_num,(HT.out.trans (if_neg E.out)).symm,HK.out.trans (ja _ _)⟩
        case measure=>simp[intOf];omega
    · have HK:=lH hK;have HS:=lH (hrest.symm.trans (congrArg (fun z=>jr z n) (zM (by rw[HL.out];exact hlt))));clear hK hrest;go_wp2;go_ret2
      exact⟨Zi (HS.out.trans rfl),HK.out⟩
abbrev NT:=ByteArray×ByteArray×Bool
abbrev NL:=List NT
theorem XI (x y:ByteArray) (b:Bool) (u:Value) (h:u ∈ [Value.string x,Value.string y,Value.bool b]):u.oneCell'=true:=by
 have e:u=Value.string x∨u=Value.string y∨u=Value.bool b:=by simpa using h
 rcases e with e | e | e<;>rw[e]<;>rfl
def jv:Lay NT:={ m:=3,cs:=fun x=>[.string x.1,.string x.2.1,.bool x.2.2],fine:=fun x=>x.1.size≤maxLen∧x.2.1.size≤maxLen,len:=fun _=>rfl,one:=fun x=>XI x.1 x.2.1 x.2.2,pos:=by decide }
theorem ji.tri {w:World} {b off len:Nat} {l:NL} {k:Nat} (h:ji jv w (some ⟨b,off,none⟩) len l) (hk:k<len) :
 ∃(x y:ByteArray) (m:Bool),l[k]?=some (x,y,m)∧l.drop k=(x,y,m)::l.drop (k+1)∧b<w.heap.size∧x.size≤maxLen∧y.size≤maxLen ∧
  w.cell? ⟨b,off+k*3,none⟩=some (.string x)∧w.cell? ⟨b,off+k*3+1,none⟩=some (.string y)∧w.cell? ⟨b,off+k*3+2,none⟩=some (.bool m):=by
 obtain⟨⟨x,y,m⟩,h1,h2,h3,h4,h5⟩:=h.cells hk;exact⟨x,y,m,h1,h2,h3,h4.1,h4.2,h5 0 _ rfl,h5 1 _ rfl,h5 2 _ rfl⟩
def JG (t z:NT):Bool:=eqS z.1 t.1&&eqS z.2.1 t.2.1
def Je:NL→NL→Int
 | _,[]=>0
 | pre,x::t=>if (isName x.1&&isName x.2.1)=false then 3 else if pre.any (JG x)=true then 6 else Je (pre++[x]) t
def Z6 (l:NL):Int:=if 8<l.length then 4 else Je [] l
theorem qf {pre:NL} {x:NT} {t:NL} (n:(isName x.1&&isName x.2.1)=false):Je pre (x::t)=3:=by rw[Je,if_pos n]
theorem jbh {pre:NL} {x:NT} {t:NL} (n1:isName x.1=true) (n2:isName x.2.1=true) (b:pre.any (JG x)=true):Je pre (x::t)=6:=by
 rw[Je,if_neg (by rw[n1,n2];decide),if_pos b]
theorem jbM {pre:NL} {x:NT} {t:NL} (n1:isName x.1=true) (n2:isName x.2.1=true) (b:pre.any (JG x)=false):Je pre (x::t)=Je (pre++[x]) t:=by
 rw[Je,if_neg (by rw[n1,n2];decide),if_neg (by rw[b];decide)]
def zu (s:ByteArray):Bool:=eqS s ByteArray.empty
def zD (x:NT):Bool:=(zu x.1||isName x.1)&&(if x.2.2=true then zu x.2.1 else isName x.2.1)
def Ju (l:NL):Int:=if 8<l.length then 4 else if l.all zD=true then 0 else 3
theorem zB {s:ByteArray}:zu s=(s.toList==([]:List UInt8)):=by
 unfold zu eqS;rw[show ByteArray.empty.toList=([]:List UInt8) from by rw[Lib.toList_data];rfl]
open Go.RowKit Go.Shelf
attribute [local go_sem] Oper.semAt_some
end Go.Proofs.Ytgfoenfaohhjcaa
namespace Go.Proofs.Ytgfoenfaohhjcaa
open Go.RowKit Go.Shelf
attribute [local go_sem] Oper.semAt_some
end Go.Proofs.Ytgfoenfaohhjcaa
namespace Go.Proofs.Ytgfoenfaohhjcaa
open Go.RowKit
theorem jc0 {v:Value} {l:PL} {n x:ByteArray} {b:Bool} {w:World} (h:Reads jl w v l) (hx:Zb l n=x) (hb:Za l n=b) :
 Calls Try.prog 49 #[v,.string n] w (Say (.tuple #[.string x,.bool b]) w):=by
 obtain⟨a,cap,rfl,_,_,hr⟩:=h;exact(jd5 a _ cap l n w hr).mono fun e w' ⟨he,k⟩=>⟨by rw[he,hx,hb],k⟩
def JV (x:ByteArray×ByteArray):Bool:=decide (x.1.size≤50)&&decide (x.2.size≤50)
def J4 (x:Int×ByteArray×ByteArray):Bool:=decide (x.2.1.size≤50)&&decide (x.2.2.size≤50)
def Jv (l:PL):Bool:=decide (l.length≤20)&&l.all JV
def Jt (l:TL):Bool:=decide (l.length≤20)&&l.all J4
theorem XM (a:Option Addr) (len cap:Nat) (l:PL) (w:World) (hr:ji jl w a len l) :
 Calls Try.prog 30 #[.slice a len cap] w fun e w'=>e=.returned (.bool (Jv l))∧w=w':=by
 have hl:=hr.1;have hm:=hr.2.1;unfold maxLen at hm;by_cases h20:len≤20
 · have HV:=lH (show Jv l=l.all JV by unfold Jv;rw[decide_eq_true (by omega)];rfl);rcases hr.form with h0 | ⟨b,off,rfl⟩
   · subst h0;have HE:=lH (show Jv l=true by rw[HV.out,List.eq_nil_of_length_eq_zero hl];rfl);clear hr hl;go_enter Try.func30,Try.ntmps30;go_wp2;refine wp_loop_rounds 1 ?_;rw[rounds_succ];go_wp2;go_ret;exact⟨je HE.out.symm,rfl⟩
   · have HR:=lH hr;have HL:=lH hl;clear hr hl;go_enter Try.func30,Try.ntmps30;go_wp2;go_loop [3] (fun i=>∃k:Nat,k≤len∧i=.int .i64 k∧(l.drop k).all JV=l.all JV) (fun i=>len-(intOf i).toNat)
     case atStart=>exact⟨0,Nat.zero_le _,rfl,rfl⟩
     case round =>
      obtain⟨k,hk,rfl,hrest⟩:=hrel;by_cases hlt:k<len
      · obtain⟨x,y,hx,hd,hb,hz,hz2,c1,c2⟩:=HR.out.pair hlt;have HT:=lH (hrest.symm.trans ((congrArg (fun z=>z.all JV) hd).trans (all_cons _ _ _)));clear hrest hx hd;unfold maxLen at hz hz2;by_cases e:x.size≤50
        · by_cases e2:y.size≤50
          · have E:=lH (show JV (x,y)=true by unfold JV;rw[decide_eq_true e,decide_eq_true e2];rfl);go_wp2;go_round
            case rel=>exact⟨k+1,by omega,by go_num,(HT.out.trans (by rw[E.out];exact Bool.true_and _)).symm⟩
            case measure=>simp[intOf];omega
          · have E:=lH (show JV (x,y)=false by unfold JV;rw[decide_eq_false e2];exact Bool.and_false _);have e2':50<y.size:=by omega
            clear e2;go_wp2;go_ret;exact⟨je (HV.out.trans (HT.out.trans (by rw[E.out];exact Bool.false_and _))).symm,rfl⟩
        · have E:=lH (show JV (x,y)=false by unfold JV;rw[decide_eq_false e];exact Bool.false_and _);have e':50<x.size:=by omega
          clear e;go_wp2;go_ret;exact⟨je (HV.out.trans (HT.out.trans (by rw[E.out];exact Bool.false_and _))).symm,rfl⟩
      · have HS:=lH ((HV.out.trans hrest.symm).trans (congrArg (fun z=>z.all JV) (zM (by rw[HL.out];exact hlt))));clear hrest;go_wp2;go_ret;exact⟨je (HS.out.trans rfl).symm,rfl⟩
 · have HV:=lH (show Jv l=false by unfold Jv;rw[decide_eq_false (by omega)];rfl);have h9:20<len:=by omega
   clear h20 hr hl;go_enter Try.func30,Try.ntmps30;go_wp2;go_ret;exact⟨je HV.out.symm,rfl⟩
theorem jbw (a:Option Addr) (len cap:Nat) (l:TL) (w:World) (hr:ji jQ w a len l) :
 Calls Try.prog 31 #[.slice a len cap] w fun e w'=>e=.returned (.bool (Jt l))∧w=w':=by
 have hl:=hr.1;have hm:=hr.2.1;unfold maxLen at hm;by_cases h20:len≤20
 · have HV:=lH (show Jt l=l.all J4 by unfold Jt;rw[decide_eq_true (by omega)];rfl);rcases hr.form with h0 | ⟨b,off,rfl⟩
   · subst h0;have HE:=lH (show Jt l=true by rw[HV.out,List.eq_nil_of_length_eq_zero hl];rfl);clear hr hl;go_enter Try.func31,Try.ntmps31;go_wp2;refine wp_loop_rounds 1 ?_;rw[rounds_succ];go_wp2;go_ret;exact⟨je HE.out.symm,rfl⟩
   · have HR:=lH hr;have HL:=lH hl;clear hr hl;go_enter Try.func31,Try.ntmps31;go_wp2;go_loop [3] (fun i=>∃k:Nat,k≤len∧i=.int .i64 k∧(l.drop k).all J4=l.all J4) (fun i=>len-(intOf i).toNat)
     case atStart=>exact⟨0,Nat.zero_le _,rfl,rfl⟩
     case round =>
      obtain⟨k,hk,rfl,hrest⟩:=hrel;by_cases hlt:k<len
      · obtain⟨o,x,y,hx,hd,hb,ho,hz,hz2,c0,c1,c2⟩:=HR.out.term hlt;have HT:=lH (hrest.symm.trans ((congrArg (fun z=>z.all J4) hd).trans (all_cons _ _ _)));clear hrest hx hd;unfold maxLen at hz hz2;by_cases e:x.size≤50
        · by_cases e2:y.size≤50
          · have E:=lH (show J4 (o,x,y)=true by unfold J4;rw[decide_eq_true e,decide_eq_true e2];rfl);go_wp2;go_round
            case rel=>exact⟨k+1,by omega,by go_num,(HT.out.trans (by rw[E.out];exact Bool.true_and _)).symm⟩
            case measure=>simp[intOf];omega
          · have E:=lH (show J4 (o,x,y)=false by unfold J4;rw[decide_eq_false e2];exact Bool.and_false _);have e2':50<y.size:=by omega
            clear e2;go_wp2;go_ret;exact⟨je (HV.out.trans (HT.out.trans (by rw[E.out];exact Bool.false_and _))).symm,rfl⟩
        · have E:=lH (show J4 (o,x,y)=false by unfold J4;rw[decide_eq_false e];exact Bool.false_and _);have e':50<x.size:=by omega
          clear e;go_wp2;go_ret;exact⟨je (HV.out.trans (HT.out.trans (by rw[E.out];exact Bool.false_and _))).symm,rfl⟩
      · have HS:=lH ((HV.out.trans hrest.symm).trans (congrArg (fun z=>z.all J4) (zM (by rw[HL.out];exact hlt))));clear hrest;go_wp2;go_ret;exact⟨je (HS.out.trans rfl).symm,rfl⟩
 · have HV:=lH (show Jt l=false by unfold Jt;rw[decide_eq_false (by omega)];rfl);have h9:20<len:=by omega
   clear h20 hr hl;go_enter Try.func31,Try.ntmps31;go_wp2;go_ret;exact⟨je HV.out.symm,rfl⟩
theorem Xx (a:Option Addr) (len cap:Nat) (l:PL) (w:World) (hr:ji jl w a len l) :
 Calls Try.prog 35 #[.slice a len cap] w fun e w'=>e=.returned (.int .i64 (JK l))∧Kept w w':=by
 have hl:=hr.1;have hm:=hr.2.1;unfold maxLen at hm;by_cases h8:len≤8
 · have HV:=lH (show JK l=zj none l by unfold JK;rw[if_neg (by omega)]);rcases hr.form with h0 | ⟨b,off,rfl⟩
   · subst h0;have HE:=lH (show JK l=0 by rw[HV.out];rw[List.eq_nil_of_length_eq_zero hl];rfl);clear hr hl;go_enter Try.func35,Try.ntmps35;go_wp2;refine wp_loop_rounds 1 ?_;rw[rounds_succ];go_wp2;go_ret;exact⟨jb HE.out.symm,Kept.refl _⟩
   · have HR:=lH hr;have HL:=lH hl;clear hr hl;go_enter Try.func35,Try.ntmps35;go_wp2;go_loopw [3] (fun i wr=>∃k:Nat,k≤len∧i=.int .i64 k∧zj (Ze l k) (l.drop k)=zj none l∧Kept w wr) (fun i _=>len-(intOf i).toNat)
     case atStart=>exact⟨0,Nat.zero_le _,rfl,rfl,Kept.refl _⟩
     case round =>
      obtain⟨k,hk,rfl,hrest,hK⟩:=hrel;by_cases hlt:k<len
      · obtain⟨x,y,hx,hd,hb,hz,hz2,c1,c2⟩:=(HR.out.kept hK).pair hlt;have HX:=lH hx;have HK:=lH hK;have HT:=lH (hrest.symm.trans (congrArg (zj (Ze l k)) hd));have HS:=lH (HV.out.trans HT.out);clear hK hrest hx hd;by_cases n1:isName x=true
        · by_cases n2:isName y=true
          · have N1:=lH n1;have N2:=lH n2;by_cases h0:k=0
            · have hd:decide (0<k)=false:=by subst h0;decide
              have HP:=lH (ZK (l:=l) h0 x);clear h0;go_wp2_with (go_at_call 33;refine(jg _ _ (by assumption)).mono ?_;rintro e w' ⟨rfl,rfl⟩)
              go_quiet (fail)
              go_wp2;go_roundw
              case rel=>exact⟨k+1,by omega,by go_num,by rw[ZC HX.out];exact(Zl N1.out N2.out HP.out).symm.trans HT.out.symm,HK.out.trans (Kept.drewN _ _)⟩
              case measure=>simp[intOf];omega
            · have hd:decide (0<k)=true:=by simp;omega
              have g1:0≤(k:Int)-1:=by omega
              have g2:(k:Int)-1<(len:Int):=by omega
              have g3:((k:Int)-1).toNat=k-1:=by omega
              obtain⟨px,py,hpx,_,_,_,_,d1,d2⟩:=(HR.out.kept HK.out).pair (show k-1<len by omega);have HP:=lH (ZQ (l:=l) h0 hpx x);clear hpx;by_cases n3:leS x px=true
              · have n3':(Op.bytesLess x.toList px.toList||x.toList==px.toList)=true:=n3;have N3:=lH n3;clear n3;go_wp2_with (go_at_call 33;refine(jg _ _ (by assumption)).mono ?_;rintro e w' ⟨rfl,rfl⟩)
                go_quiet (fail)
                go_wp2;go_ret;exact⟨jb (HS.out.trans (Yx N1.out N2.out (HP.out.trans N3.out))).symm,HK.out.trans (Kept.drewN _ _)⟩
              · have n3:leS x px=false:=by simpa using n3
                have n3':(Op.bytesLess x.toList px.toList||x.toList==px.toList)=false:=n3;have N3:=lH n3;clear n3;go_wp2_with (go_at_call 33;refine(jg _ _ (by assumption)).mono ?_;rintro e w' ⟨rfl,rfl⟩)
                go_quiet (fail)
                go_wp2;go_roundw
                case rel=>exact⟨k+1,by omega,by go_num,by rw[ZC HX.out];exact(Zl N1.out N2.out (HP.out.trans N3.out)).symm.trans HT.out.symm,HK.out.trans (Kept.drewN _ _)⟩
                case measure=>simp[intOf];omega
          · have n2:isName y=false:=by simpa using n2
            have N:=lH (show (isName x&&isName y)=false by rw[n2,Bool.and_false]);go_wp2_with (go_at_call 33;refine(jg _ _ (by assumption)).mono ?_;rintro e w' ⟨rfl,rfl⟩)
            go_ret;exact⟨jb (HS.out.trans (Yf N.out)).symm,HK.out⟩
        · have n1:isName x=false:=by simpa using n1
          have N:=lH (show (isName x&&isName y)=false by rw[n1,Bool.false_and]);go_wp2_with (go_at_call 33;refine(jg x _ hz).mono ?_;rintro e w' ⟨rfl,rfl⟩)
          go_ret;exact⟨jb (HS.out.trans (Yf N.out)).symm,HK.out⟩
      · have HK:=lH hK;have HS:=lH ((HV.out.trans hrest.symm).trans (congrArg (zj (Ze l k)) (zM (by rw[HL.out];exact hlt))));clear hK hrest;go_wp2;go_ret;exact⟨jb (HS.out.trans rfl).symm,HK.out⟩
 · have HV:=lH (show JK l=4 by unfold JK;rw[if_pos (by omega)]);have h9:8<len:=by omega
   clear h8 hr hl;go_enter Try.func35,Try.ntmps35;go_wp2;go_ret;exact⟨jb HV.out.symm,Kept.refl _⟩
theorem Xw (a:Option Addr) (len cap:Nat) (l:TL) (w:World) (hr:ji jQ w a len l) :
 Calls Try.prog 36 #[.slice a len cap] w fun e w'=>e=.returned (.int .i64 (Zr l))∧Kept w w':=by
 have hl:=hr.1;have hm:=hr.2.1;unfold maxLen at hm;by_cases h8:len≤8
 · have HV:=lH (show Zr l=Zh l by unfold Zr;rw[if_neg (by omega)]);rcases hr.form with h0 | ⟨b,off,rfl⟩
   · subst h0;have HE:=lH (show Zr l=0 by rw[HV.out];rw[List.eq_nil_of_length_eq_zero hl];rfl);clear hr hl;go_enter Try.func36,Try.ntmps36;go_wp2;refine wp_loop_rounds 1 ?_;rw[rounds_succ];go_wp2;go_ret;exact⟨jb HE.out.symm,Kept.refl _⟩
   · have HR:=lH hr;have HL:=lH hl;clear hr hl;go_enter Try.func36,Try.ntmps36;go_wp2;go_loopw [3] (fun i wr=>∃k:Nat,k≤len∧i=.int .i64 k∧Zh (l.drop k)=Zh l∧Kept w wr) (fun i _=>len-(intOf i).toNat)
     case atStart=>exact⟨0,Nat.zero_le _,rfl,rfl,Kept.refl _⟩
     case round =>
      obtain⟨k,hk,rfl,hrest,hK⟩:=hrel;by_cases hlt:k<len
      · obtain⟨o,x,y,hx,hd,hb,ho,hz,hz2,c1,c2,c3⟩:=(HR.out.kept hK).term hlt;have HK:=lH hK;have HT:=lH (hrest.symm.trans ((congrArg Zh hd).trans (jbf _ _)));have HS:=lH (HV.out.trans HT.out);clear hK hrest hx hd;by_cases g1:o<1
        · have N:=lH (show JY (o,x,y)=1 by rw[Jz,if_neg (by omega),if_neg (by omega)]);go_wp2_with (go_at_call 33;refine(jg _ _ (by assumption)).mono ?_;rintro e w' ⟨rfl,rfl⟩)
          go_ret;exact⟨jb (HS.out.trans ((if_pos (by rw[N.out];decide)).trans N.out)).symm,HK.out.trans (ja _ _)⟩
        · by_cases g4:4<o
          · have g1':¬o<1:=g1;have N:=lH (show JY (o,x,y)=1 by rw[Jz,if_neg (by omega),if_neg (by omega)]);go_wp2_with (go_at_call 33;refine(jg _ _ (by assumption)).mono ?_;rintro e w' ⟨rfl,rfl⟩)
            go_ret;exact⟨jb (HS.out.trans ((if_pos (by rw[N.out];decide)).trans N.out)).symm,HK.out.trans (ja _ _)⟩
          · have hcase:(o=1∨o=2)∨(o=3∨o=4):=by omega
            clear g1 g4;rcases hcase with hcase | hcase
            · have hc:=hcase;by_cases n1:isName x=true
              · by_cases n2:isName y=true
                · have NN:=lH (show JY (o,x,y)=0 by rw[Jz,if_pos hc,if_pos (by rw[n1,n2];rfl)]);clear hc;rcases hcase with rfl | rfl
                  · have N:=lH (NN.out);go_wp2_with (go_at_call 33;refine(jg _ _ (by assumption)).mono ?_;rintro e w' ⟨rfl,rfl⟩)
                    go_roundw
                    case rel=>exact⟨k+1,by omega,by go_num,(HT.out.trans (if_neg (by rw[N.out];decide))).symm,HK.out.trans (ja _ _)⟩
                    case measure=>simp[intOf];omega
                  · have N:=lH (NN.out);go_wp2_with (go_at_call 33;refine(jg _ _ (by assumption)).mono ?_;rintro e w' ⟨rfl,rfl⟩)
                    go_roundw
                    case rel=>exact⟨k+1,by omega,by go_num,(HT.out.trans (if_neg (by rw[N.out];decide))).symm,HK.out.trans (ja _ _)⟩
                    case measure=>simp[intOf];omega
                · have n2:isName y=false:=by simpa using n2
                  have NN:=lH (show JY (o,x,y)=3 by rw[Jz,if_pos hc,if_neg (by rw[n2,Bool.and_false];decide)]);clear hc;rcases hcase with rfl | rfl
                  · have N:=lH (NN.out);go_wp2_with (go_at_call 33;refine(jg _ _ (by assumption)).mono ?_;rintro e w' ⟨rfl,rfl⟩)
                    go_ret;exact⟨jb (HS.out.trans ((if_pos (by rw[N.out];decide)).trans N.out)).symm,HK.out.trans (ja _ _)⟩
                  · have N:=lH (NN.out);go_wp2_with (go_at_call 33;refine(jg _ _ (by assumption)).mono ?_;rintro e w' ⟨rfl,rfl⟩)
                    go_ret;exact⟨jb (HS.out.trans ((if_pos (by rw[N.out];decide)).trans N.out)).symm,HK.out.trans (ja _ _)⟩
              · have n1:isName x=false:=by simpa using n1
                have NN:=lH (show JY (o,x,y)=3 by rw[Jz,if_pos hc,if_neg (by rw[n1,Bool.false_and];decide)]);clear hc;rcases hcase with rfl | rfl
                · have N:=lH (NN.out);go_wp2_with (go_at_call 33;refine(jg _ _ (by assumption)).mono ?_;rintro e w' ⟨rfl,rfl⟩)
                  go_ret;exact⟨jb (HS.out.trans ((if_pos (by rw[N.out];decide)).trans N.out)).symm,HK.out.trans (ja _ _)⟩
                · have N:=lH (NN.out);go_wp2_with (go_at_call 33;refine(jg _ _ (by assumption)).mono ?_;rintro e w' ⟨rfl,rfl⟩)
                  go_ret;exact⟨jb (HS.out.trans ((if_pos (by rw[N.out];decide)).trans N.out)).symm,HK.out.trans (ja _ _)⟩
            · have hc:=hcase;have hn:¬(o=1∨o=2):=by omega
              by_cases n1:isName x=true
              · by_cases n2:eqS y ByteArray.empty=true
                · have NN:=lH (show JY (o,x,y)=0 by rw[Jz,if_neg hn,if_pos hc,if_pos (by rw[n1,n2];rfl)]);have n2':(y.toList==([]:List UInt8))=true:=by unfold eqS at n2;simpa using n2
                  clear hc hn n2;rcases hcase with rfl | rfl
                  · have N:=lH (NN.out);go_wp2_with (go_at_call 33;refine(jg _ _ (by assumption)).mono ?_;rintro e w' ⟨rfl,rfl⟩)
                    go_roundw
                    case rel=>exact⟨k+1,by omega,by go_num,(HT.out.trans (if_neg (by rw[N.out];decide))).symm,HK.out.trans (ja _ _)⟩
                    case measure=>simp[intOf];omega
                  · have N:=lH (NN.out);go_wp2_with (go_at_call 33;refine(jg _ _ (by assumption)).mono ?_;rintro e w' ⟨rfl,rfl⟩)
                    go_roundw
                    case rel=>exact⟨k+1,by omega,by go_num,(HT.out.trans (if_neg (by rw[N.out];decide))).symm,HK.out.trans (ja _ _)⟩
                    case measure=>simp[intOf];omega
                · have n2:eqS y ByteArray.empty=false:=by simpa using n2
                  have NN:=lH (show JY (o,x,y)=3 by rw[Jz,if_neg hn,if_pos hc,if_neg (by rw[n2,Bool.and_false];decide)]);have n2':(y.toList==([]:List UInt8))=false:=by unfold eqS at n2;simpa using n2
                  clear hc hn n2;rcases hcase with rfl | rfl
                  · have N:=lH (NN.out);go_wp2_with (go_at_call 33;refine(jg _ _ (by assumption)).mono ?_;rintro e w' ⟨rfl,rfl⟩)
                    go_ret;exact⟨jb (HS.out.trans ((if_pos (by rw[N.out];decide)).trans N.out)).symm,HK.out.trans (ja _ _)⟩
                  · have N:=lH (NN.out);go_wp2_with (go_at_call 33;refine(jg _ _ (by assumption)).mono ?_;rintro e w' ⟨rfl,rfl⟩)
                    go_ret;exact⟨jb (HS.out.trans ((if_pos (by rw[N.out];decide)).trans N.out)).symm,HK.out.trans (ja _ _)⟩
              · have n1:isName x=false:=by simpa using n1
                have NN:=lH (show JY (o,x,y)=3 by rw[Jz,if_neg hn,if_pos hc,if_neg (by rw[n1,Bool.false_and];decide)]);clear hc hn;rcases hcase with rfl | rfl
                · have N:=lH (NN.out);go_wp2_with (go_at_call 33;refine(jg _ _ (by assumption)).mono ?_;rintro e w' ⟨rfl,rfl⟩)
                  go_ret;exact⟨jb (HS.out.trans ((if_pos (by rw[N.out];decide)).trans N.out)).symm,HK.out.trans (ja _ _)⟩
                · have N:=lH (NN.out);go_wp2_with (go_at_call 33;refine(jg _ _ (by assumption)).mono ?_;rintro e w' ⟨rfl,rfl⟩)
                  go_ret;exact⟨jb (HS.out.trans ((if_pos (by rw[N.out];decide)).trans N.out)).symm,HK.out.trans (ja _ _)⟩
      · have HK:=lH hK;have HS:=lH ((HV.out.trans hrest.symm).trans (congrArg Zh (zM (by rw[HL.out];exact hlt))));clear hK hrest;go_wp2;go_ret;exact⟨jb (HS.out.trans rfl).symm,HK.out⟩
 · have HV:=lH (show Zr l=4 by unfold Zr;rw[if_pos (by omega)]);have h9:8<len:=by omega
   clear h8 hr hl;go_enter Try.func36,Try.ntmps36;go_wp2;go_ret;exact⟨jb HV.out.symm,Kept.refl _⟩
end Go.Proofs.Ytgfoenfaohhjcaa
