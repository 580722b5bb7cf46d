/- What serves all packages,and package by package the contracts of the functions that the law calls. -/
import Derived.Test.YthmddloeggdohaaGreatDoorShort
import Derived.Test.YthmddloeggdohaaGreatDoorProg
import Derived.WalkLawsBesides
import Derived.WalkSpells
import Derived.BigQuiet
import Derived.Deep.AppendLies
import Derived.RangeFuncRecord
import Derived.Shelf.Strings.OnBuilder
import Derived.Shelf.Small.Strs
import Derived.Shelf.Small.Wraps
import Derived.Shelf.Utf8.RuneCount
import Derived.Shelf.Strconv.Itoa4
import Derived.Shelf.Strconv.ErrVarParseInt
import Derived.Shelf.Strings.Shaped
import Derived.Shelf.Strings.SplitShaped
import Derived.Shelf.Strings.Explode
import Derived.Shelf.Unicode.DecodeAny
import Derived.Shelf.Strings.BuilderCap
set_option linter.unusedVariables false
set_option maxRecDepth 100000
set_option maxHeartbeats 25600000
namespace Go.Proofs.YthmddloeggdohaaGreatDoor
open Go.RowKit
def Kept (w w':World):Prop:=Below w.heap.size w w'
theorem Kept.refl (w:World):Kept w w:=Below.refl _ _
theorem Kept.trans {a b c:World} (h:Kept a b) (k:Kept b c):Kept a c:=Below.trans h (Below.mono k h.size)
theorem Kept.drewN (w:World) (n:Nat):Kept w (w.drewN n):=below_drewN (Below.refl _ _) n
theorem Kept.drew (w:World):Kept w w.drew:=Kept.drewN w 1
theorem ja (w:World) (o:Obj):Kept w (w.alloc o):=(Below.refl _ _).alloc (Nat.le_refl _) _
theorem Zb (w:World) (o:Obj) (n:Nat):Kept w ((w.drewN n).alloc o):=(ja w o).trans (Kept.drewN _ n)
theorem jk (w:World) (o o':Obj):Kept w ((w.alloc o).alloc o'):=(ja w o).trans (ja _ o')
theorem cell_later {w w':World} {a:Addr} {u:Value} (k:Kept w w') (h:w.cell? a=some u):w'.cell? a=some u :=
 (Below.cell k (World.block_lt_of_cell? _ _ h)).trans h
theorem jb {a b:Int} (h:a=b):Ending.returned (.int .i64 a)=.returned (.int .i64 b):=by rw[h]
theorem Jt {a b:ByteArray} (h:a=b):Ending.returned (.string a)=.returned (.string b):=by rw[h]
def ltS (s t:ByteArray):Bool:=Op.bytesLess s.toList t.toList
def eqS (s t:ByteArray):Bool:=s.toList==t.toList
def leS (s t:ByteArray):Bool:=ltS s t||eqS s t
theorem zt {s t:ByteArray}:eqS s t=true↔s=t:=by
 unfold eqS;rw[Lib.toList_data,Lib.toList_data,beq_iff_eq];constructor
 · intro h
   cases s;cases t
   simp only[ByteArray.mk.injEq];exact Array.ext' h
 · rintro rfl;rfl
theorem qC (s:ByteArray):eqS s s=true:=zt.2 rfl
structure Lay (α:Type) where
 m:Nat
 cs:α→List Value
 fine:α→Prop
 len:∀x,(cs x).length=m
 one:∀x u,u ∈ cs x→u.oneCell'=true
 pos:0<m
theorem jaM (x:ByteArray) (u:Value) (h:u ∈ [Value.string x]):u.oneCell'=true:=by
 have e:u=Value.string x:=by simpa using h
 rw[e];rfl
theorem jfX (x y:ByteArray) (u:Value) (h:u ∈ [Value.string x,Value.string y]):u.oneCell'=true:=by
 have e:u=Value.string x∨u=Value.string y:=by simpa using h
 rcases e with e | e<;>rw[e]<;>rfl
theorem jeq (o:Int) (x y:ByteArray) (u:Value) (h:u ∈ [Value.int .i64 o,Value.string x,Value.string y]):u.oneCell'=true:=by
 have e:u=Value.int .i64 o∨u=Value.string x∨u=Value.string y:=by simpa using h
 rcases e with e | e | e<;>rw[e]<;>rfl
def zy:Lay ByteArray:={ m:=1,cs:=fun s=>[.string s],fine:=fun s=>s.size≤maxLen,len:=fun _=>rfl,one:=jaM,pos:=by decide }
def js:Lay (ByteArray×ByteArray):={ m:=2,cs:=fun x=>[.string x.1,.string x.2],fine:=fun x=>x.1.size≤maxLen∧x.2.size≤maxLen,len:=fun _=>rfl,one:=fun x=>jfX x.1 x.2,pos:=by decide }
def jL:Lay (Int×ByteArray×ByteArray):={ m:=3,cs:=fun x=>[.int .i64 x.1,.string x.2.1,.string x.2.2],fine:=fun x=>(-9223372036854775808≤x.1∧x.1≤9223372036854775807)∧x.2.1.size≤maxLen∧x.2.2.size≤maxLen,len:=fun _=>rfl,one:=fun x=>jeq x.1 x.2.1 x.2.2,pos:=by decide }
def jr {α:Type} (L:Lay α) (w:World) (a:Option Addr) (len:Nat) (l:List α):Prop :=
 l.length=len∧len≤maxLen∧(∀x ∈ l,L.fine x) ∧
  (len=0∨∃b off,a=some ⟨b,off,none⟩∧b<w.heap.size ∧
    ∀i x j u,l[i]?=some x→(L.cs x)[j]?=some u→w.cell? ⟨b,off+i*L.m+j,none⟩=some u)
theorem jr.kept {α:Type} {L:Lay α} {w w':World} {a:Option Addr} {len:Nat} {l:List α} (h:jr L w a len l) (k:Kept w w'):jr L w' a len l:=by
 obtain⟨h0,h1,h2,h3⟩:=h;refine⟨h0,h1,h2,h3.imp id ?_⟩;rintro ⟨b,off,ha,hb,hc⟩;exact⟨b,off,ha,Nat.lt_of_lt_of_le hb k.size,fun i x j u hi hj=>(Below.cell k (p:=⟨b,off+i*L.m+j,none⟩) hb).trans (hc i x j u hi hj)⟩
theorem jr.nil {α:Type} {L:Lay α} (w:World) (a:Option Addr):jr L w a 0 []:=⟨rfl,by decide,fun i hi=>absurd hi (by simp),.inl rfl⟩
theorem jr.form {α:Type} {L:Lay α} {w:World} {a:Option Addr} {len:Nat} {l:List α} (h:jr L w a len l):len=0∨∃b off,a=some ⟨b,off,none⟩:=by
 obtain⟨_,_,_,h3⟩:=h;exact h3.imp id fun ⟨b,off,e,_⟩=>⟨b,off,e⟩
theorem jr.cells {α:Type} {L:Lay α} {w:World} {b off len:Nat} {l:List α} {k:Nat} (h:jr L w (some ⟨b,off,none⟩) len l) (hk:k<len) :
 ∃x,l[k]?=some x∧l.drop k=x::l.drop (k+1)∧b<w.heap.size∧L.fine x∧∀(j:Nat) u,(L.cs x)[j]?=some u→w.cell? ⟨b,off+k*L.m+j,none⟩=some u:=by
 obtain⟨h0,_,hf,h3⟩:=h;have hkl:k<l.length:=by omega
 rcases h3 with h3 | ⟨b',off',e,hb,hc⟩
 · omega
 · injection e with e;injection e with e1 e2 e3;subst e1;subst e2;have he:l[k]?=some l[k]:=List.getElem?_eq_getElem hkl;exact⟨l[k],he,List.drop_eq_getElem_cons hkl,hb,hf _ (List.getElem_mem hkl),fun j u hu=>hc k _ j u he hu⟩
theorem jr.str {w:World} {b off len:Nat} {l:List ByteArray} {k:Nat} (h:jr zy w (some ⟨b,off,none⟩) len l) (hk:k<len) :
 ∃x:ByteArray,l[k]?=some x∧l.drop k=x::l.drop (k+1)∧b<w.heap.size∧x.size≤maxLen∧w.cell? ⟨b,off+k,none⟩=some (.string x):=by
 obtain⟨x,h1,h2,h3,h4,h5⟩:=h.cells hk;exact⟨x,h1,h2,h3,h4,by have:=h5 0 _ rfl;simpa [zy] using this⟩
theorem jr.pair {w:World} {b off len:Nat} {l:List (ByteArray×ByteArray)} {k:Nat} (h:jr js w (some ⟨b,off,none⟩) len l) (hk:k<len) :
 ∃x y:ByteArray,l[k]?=some (x,y)∧l.drop k=(x,y)::l.drop (k+1)∧b<w.heap.size∧x.size≤maxLen∧y.size≤maxLen∧w.cell? ⟨b,off+k*2,none⟩=some (.string x)∧w.cell? ⟨b,off+k*2+1,none⟩=some (.string y):=by
 obtain⟨⟨x,y⟩,h1,h2,h3,h4,h5⟩:=h.cells hk;exact⟨x,y,h1,h2,h3,h4.1,h4.2,h5 0 _ rfl,h5 1 _ rfl⟩
theorem jr.term {w:World} {b off len:Nat} {l:List (Int×ByteArray×ByteArray)} {k:Nat} (h:jr jL w (some ⟨b,off,none⟩) len l) (hk:k<len) :
 ∃(o:Int) (x y:ByteArray),l[k]?=some (o,x,y)∧l.drop k=(o,x,y)::l.drop (k+1)∧b<w.heap.size∧(-9223372036854775808≤o∧o≤9223372036854775807)∧x.size≤maxLen∧y.size≤maxLen ∧
  w.cell? ⟨b,off+k*3,none⟩=some (.int .i64 o)∧w.cell? ⟨b,off+k*3+1,none⟩=some (.string x)∧w.cell? ⟨b,off+k*3+2,none⟩=some (.string y):=by
 obtain⟨⟨o,x,y⟩,h1,h2,h3,h4,h5⟩:=h.cells hk;exact⟨o,x,y,h1,h2,h3,h4.1,h4.2.1,h4.2.2,h5 0 _ rfl,h5 1 _ rfl,h5 2 _ rfl⟩
def jd {α:Type} (L:Lay α) (l:List α):List Value:=l.flatMap L.cs
theorem JB {α:Type} (L:Lay α):∀l:List α,(jd L l).length=l.length*L.m
 | []=>by simp[jd]
 | x::t=>by
  have:=JB L t;unfold jd at this ⊢;rw[List.flatMap_cons,List.length_append,this,L.len,List.length_cons,Nat.add_mul,Nat.one_mul,Nat.add_comm]
theorem jC {α:Type} (L:Lay α) (l m:List α):jd L (l++m)=jd L l++jd L m:=by unfold jd;rw[List.flatMap_append]
theorem YB {α:Type} (L:Lay α) (l:List α) (u:Value) (h:u ∈ jd L l):u.oneCell'=true:=by
 obtain⟨x,_,hu⟩:=List.mem_flatMap.1 h;exact L.one x u hu
theorem jcF {α:Type} (L:Lay α):∀(l:List α) (i:Nat) (x:α) (j:Nat) (u:Value),l[i]?=some x→(L.cs x)[j]?=some u→(jd L l)[i*L.m+j]?=some u
 | [],i,x,j,u,h,_=>by simp at h
 | y::t,0,x,j,u,h,hu=>by
  have:y=x:=by simpa using h
  subst this;unfold jd;rw[List.flatMap_cons,Nat.zero_mul,Nat.zero_add,List.getElem?_append_left (List.getElem?_eq_some_iff.1 hu).1];exact hu
 | y::t,i+1,x,j,u,h,hu=>by
  have ih:=jcF L t i x j u (by simpa using h) hu;unfold jd at ih ⊢;rw[List.flatMap_cons,List.getElem?_append_right (by rw[L.len,Nat.add_mul];omega),L.len];have:(i+1)*L.m+j-L.m=i*L.m+j:=by rw[Nat.add_mul];omega
  rw[this];exact ih
def Own {α:Type} (L:Lay α) (e:TypeId) (w:World) (base:Nat) (v:Value) (l:List α):Prop:=w.ownsRow base e L.m v l.length (jd L l)∧∀x ∈ l,L.fine x
theorem Own.nil {α:Type} {L:Lay α} (e:TypeId) (w:World) (base:Nat):Own L e w base (.slice none 0 0) []:=⟨World.ownsRow_nil w base e L.m,fun x h=>by cases h⟩
theorem Own.at_ {α:Type} {L:Lay α} {e:TypeId} {w:World} {base:Nat} {v:Value} {l:List α} (h:Own L e w base v l) :
 ∃a cap,v=.slice a l.length cap∧l.length≤cap∧cap≤maxLen∧jr L w a l.length l:=by
 obtain⟨h,hf⟩:=h;have h':=h;obtain⟨_,h1⟩:=h;rcases h1 with ⟨rfl,h0⟩ | ⟨g,cap,cur,rfl,hbg,hg,hn,hm,hs,ht⟩
 · have:l=[]:=List.eq_nil_of_length_eq_zero h0;subst this;exact⟨none,0,rfl,Nat.le_refl _,by decide,jr.nil w none⟩
 · refine⟨_,cap,rfl,hn,hm,rfl,Nat.le_trans hn hm,hf,.inr ⟨g,0,rfl,?_,fun i x j u hi hj=>?_⟩⟩
   · rcases Nat.lt_or_ge g w.heap.size with hlt | hge
     · exact hlt
     · rw[Array.getElem?_eq_none hge] at hg;cases hg
   · have c1:=h'.cells (g:=g) rfl _ _ (jcF L l i x j u hi hj);rw[←c1];congr 1
     unfold Addr.add;split<;>simp_all
theorem Own.kept {α:Type} {L:Lay α} {e:TypeId} {w w':World} {base:Nat} {v:Value} {l:List α} (h:Own L e w base v l) (k:Kept w w'):Own L e w' base v l:=by
 obtain⟨⟨h0,h1⟩,hf⟩:=h;refine⟨⟨h0,h1.imp id ?_⟩,hf⟩;rintro ⟨g,cap,cur,rfl,hbg,hg,hn,hm,hs,ht⟩;refine⟨g,cap,cur,rfl,hbg,?_,hn,hm,hs,ht⟩;have hlt:g<w.heap.size:=by
  rcases Nat.lt_or_ge g w.heap.size with hlt | hge
  · exact hlt
  · rw[Array.getElem?_eq_none hge] at hg;cases hg
 exact(k.block g hlt).trans hg
theorem Own.base_le {α:Type} {L:Lay α} {e:TypeId} {w:World} {B B':Nat} {v:Value} {l:List α} (h:Own L e w B' v l) (hb:B≤B'):Own L e w B v l:=by
 obtain⟨⟨h0,h1⟩,hf⟩:=h;refine⟨⟨h0,h1.imp id ?_⟩,hf⟩;rintro ⟨g,cap,cur,rfl,hbg,rest⟩;exact⟨g,cap,cur,rfl,Nat.le_trans hb hbg,rest⟩
theorem Own.setCell_below {α:Type} {L:Lay α} {e:TypeId} {w:World} {B:Nat} {v:Value} {l:List α} (h:Own L e w B v l) {a:Addr} (ha:a.block<B) (u:Value):Own L e (w.setCell a u) B v l :=
 ⟨ownsRow_setCell_below h.1 ha u,h.2⟩
theorem Own.put {α:Type} {L:Lay α} {e:TypeId} {w:World} {B D:Nat} {v:Value} {l:List α} (h:Own L e w B v l) (hD:D<B) (o:Obj):Own L e (w.putObj D o) B v l:=by
 obtain⟨⟨h0,h1⟩,hf⟩:=h;refine⟨⟨h0,h1.imp id ?_⟩,hf⟩;rintro ⟨g,cap,cur,rfl,hbg,hg,rest⟩;exact⟨g,cap,cur,rfl,hbg,(World.putObj_heap_other (by omega)).trans hg,rest⟩
def Reads {α:Type} (L:Lay α) (w:World) (v:Value) (l:List α):Prop:=∃a cap,v=.slice a l.length cap∧l.length≤cap∧cap≤maxLen∧jr L w a l.length l
theorem Reads.kept {α:Type} {L:Lay α} {w w':World} {v:Value} {l:List α} (h:Reads L w v l) (k:Kept w w'):Reads L w' v l:=by
 obtain⟨a,cap,e,h1,h2,h3⟩:=h;exact⟨a,cap,e,h1,h2,h3.kept k⟩
theorem Own.reads {α:Type} {L:Lay α} {e:TypeId} {w:World} {base:Nat} {v:Value} {l:List α} (h:Own L e w base v l):Reads L w v l:=by
 obtain⟨a,cap,e,h1,h2,h3⟩:=h.at_;exact⟨a,cap,e,h1,h2,h3⟩
abbrev ju (c:Int):PanicEntry:={ v:=.iface 32 (.int .i64 c),recovered:=false }
def ZF (c:UInt8):Bool:=(decide (97≤(c.toNat:Int))&&decide ((c.toNat:Int)≤122))||(decide (48≤(c.toNat:Int))&&decide ((c.toNat:Int)≤57))
def isName (s:ByteArray):Bool:=decide (1≤s.size)&&decide (s.size≤12)&&s.data.toList.all ZF
theorem jba {s:ByteArray} (h:s.size=0):s=ByteArray.empty:=by
 have e:s.data.toList=[]:=List.eq_nil_of_length_eq_zero (by rw[Array.length_toList,ByteArray.size_data];exact h);exact Go.WideShapes.bytes_inj (by rw[e];rfl)
theorem jh {a b:Bool} (h:a=b):Ending.returned (.bool a)=.returned (.bool b):=by rw[h]
theorem Yb (c:UInt8):ZF c=true↔((97≤(c.toNat:Int)∧(c.toNat:Int)≤122)∨(48≤(c.toNat:Int)∧(c.toNat:Int)≤57)):=by
 unfold ZF;simp only[Bool.or_eq_true,Bool.and_eq_true,decide_eq_true_eq]
theorem jj1 {s:ByteArray} (h:s.data.toList.all ZF=true) (i:Nat) (hi:i<s.size):ZF s[i]=true:=by
 rw[List.all_eq_true] at h;exact h _ (by simp[ByteArray.getElem_eq_getElem_data])
theorem jdu {s:ByteArray} (h:¬s.data.toList.all ZF=true):∃(j:Nat) (hj:j<s.size),ZF s[j]=false:=by
 rw[List.all_eq_true] at h;obtain⟨x,h⟩:=Classical.not_forall.1 h;obtain⟨hx,hn⟩:=Classical.not_imp.1 h;obtain⟨j,hj,e⟩:=List.getElem_of_mem hx;refine⟨j,by simpa using hj,?_⟩;have:s[j]'(by simpa using hj)=x:=by rw[←e];simp[ByteArray.getElem_eq_getElem_data]
 rw[this];simpa using hn
theorem qY (c:UInt8) (w:World) (h1:48≤(c.toNat:Int)) (h2:(c.toNat:Int)≤57) :
 Calls Tryz.prog 263 #[.int .u8 (c.toNat:Int)] w fun e w'=>e=.returned (.bool true)∧w=w':=by
 go_enter Tryz.func263,Tryz.ntmps263;go_wp2;go_ret;exact⟨by simp[h1,h2],rfl⟩
theorem jc8 (c:UInt8) (w:World) (h:(c.toNat:Int)<48∨57<(c.toNat:Int)) :
 Calls Tryz.prog 263 #[.int .u8 (c.toNat:Int)] w fun e w'=>e=.returned (.bool false)∧w=w':=by
 by_cases h1:(c.toNat:Int)<48
 · go_enter Tryz.func263,Tryz.ntmps263;go_wp2;go_ret;exact⟨rfl,rfl⟩
 · have h2:57<(c.toNat:Int):=by omega
   have h3:48≤(c.toNat:Int):=by omega
   have h4:decide ((c.toNat:Int)≤57)=false:=by simpa using h2
   clear h h1;go_enter Tryz.func263,Tryz.ntmps263;go_wp2;go_ret;exact⟨rfl,rfl⟩
theorem jo (s:ByteArray) (w:World) (hs:s.size≤maxLen) :
 Calls Tryz.prog 98 #[.string s] w fun e w'=>e=.returned (.bool (isName s))∧w=w':=by
 unfold maxLen at hs;by_cases h1:1≤s.size
 · by_cases h2:s.size≤12
   · by_cases hall:s.data.toList.all ZF=true
     · have HV:=lH (show isName s=true by simp[isName,h1,h2,hall]);have HA:=lH (jj1 hall);clear hall;go_enter Tryz.func98,Tryz.ntmps98;go_wp2;go_loop [3] (fun i=>∃k:Nat,k≤s.size∧i=.int .i64 k) (fun i=>s.size-(intOf i).toNat)
       case atStart=>exact⟨0,Nat.zero_le _,rfl⟩
       case round =>
        obtain⟨k,hk,rfl⟩:=hrel;by_cases hlt:k<s.size
        · have hok:=(Yb _).1 (HA.out k hlt);by_cases c1:(s[k].toNat:Int)<97
          · have c2:48≤(s[k].toNat:Int):=by omega
            have c3:(s[k].toNat:Int)≤57:=by omega
            clear hok;go_wp2;go_round
            case rel=>exact⟨k+1,by omega,by go_num⟩
            case measure=>simp[intOf];omega
          · have c2:(s[k].toNat:Int)≤122:=by omega
            clear hok;go_wp2;go_round
            case rel=>exact⟨k+1,by omega,by go_num⟩
            case measure=>simp[intOf];omega
        · go_wp2;go_ret;exact⟨jh HV.out.symm,rfl⟩
     · have HV:=lH (show isName s=false by simp only[isName,Bool.and_eq_false_iff];exact .inr (by simpa using hall));obtain⟨j,hj,hbad⟩:=jdu hall;have HB:=lH hbad;clear hall hbad;go_enter Tryz.func98,Tryz.ntmps98;go_wp2;go_loop [3] (fun i=>∃k:Nat,k≤j∧i=.int .i64 k) (fun i=>s.size-(intOf i).toNat)
       case atStart=>exact⟨0,Nat.zero_le _,rfl⟩
       case round =>
        obtain⟨k,hk,rfl⟩:=hrel;have hlt:k<s.size:=by omega
        by_cases hok:ZF s[k]=true
        · have hkj:k+1≤j:=by
           rcases Nat.lt_or_eq_of_le hk with g | g
           · exact g
           · subst g;rw[HB.out] at hok;cases hok
          have hok:=(Yb _).1 hok;by_cases c1:(s[k].toNat:Int)<97
          · have c2:48≤(s[k].toNat:Int):=by omega
            have c3:(s[k].toNat:Int)≤57:=by omega
            clear hok;go_wp2;go_round
            case rel=>exact⟨k+1,by omega,by go_num⟩
            case measure=>simp[intOf];omega
          · have c2:(s[k].toNat:Int)≤122:=by omega
            clear hok;go_wp2;go_round
            case rel=>exact⟨k+1,by omega,by go_num⟩
            case measure=>simp[intOf];omega
        · have hbad:¬((97≤(s[k].toNat:Int)∧(s[k].toNat:Int)≤122)∨(48≤(s[k].toNat:Int)∧(s[k].toNat:Int)≤57)):=fun g=>hok ((Yb _).2 g);clear hok;by_cases c1:(s[k].toNat:Int)<97
          · by_cases c2:(s[k].toNat:Int)<48
            · clear hbad;go_wp2;go_ret;exact⟨jh HV.out.symm,rfl⟩
            · have c3:57<(s[k].toNat:Int):=by omega
              clear hbad;go_wp2;go_ret;exact⟨jh HV.out.symm,rfl⟩
          · have c2:122<(s[k].toNat:Int):=by omega
            have c3:57<(s[k].toNat:Int):=by omega
            have c4:¬(s[k].toNat:Int)<48:=by omega
            clear hbad;go_wp2;go_ret;exact⟨jh HV.out.symm,rfl⟩
   · have HV:=lH (show isName s=false by simp[isName,h2]);have h3:12<s.size:=by omega
     clear h2;go_enter Tryz.func98,Tryz.ntmps98;go_wp2;go_ret;exact⟨jh HV.out.symm,rfl⟩
 · have HV:=lH (show isName s=false by simp[isName,h1]);have h3:s.size<1:=by omega
   clear h1;go_enter Tryz.func98,Tryz.ntmps98;go_wp2;go_ret;exact⟨jh HV.out.symm,rfl⟩
theorem zk (s:ByteArray) (w:World) (hs:s.size≤maxLen) :
 Calls Tryz.prog 219 #[.string s] w fun e w'=>e=.returned (.bool (isName s))∧w=w':=by
 unfold maxLen at hs;by_cases h1:1≤s.size
 · have hne:(s.toList==([]:List UInt8))=false:=by
    rw[Lib.toList_data]
    cases hl:s.data.toList with
    | nil=>have:s.size=0:=by rw[←ByteArray.size_data,←Array.length_toList,hl];rfl
           omega
    | cons x t=>rfl
   by_cases h2:s.size≤12
   · by_cases hall:s.data.toList.all ZF=true
     · have HV:=lH (show isName s=true by simp[isName,h1,h2,hall]);have HA:=lH (jj1 hall);clear hall;go_enter Tryz.func219,Tryz.ntmps219;go_wp2;go_loop [14] (fun i=>∃k:Nat,k≤s.size∧i=.int .i64 k) (fun i=>s.size-(intOf i).toNat)
       case atStart=>exact⟨0,Nat.zero_le _,rfl⟩
       case round =>
        obtain⟨k,hk,rfl⟩:=hrel;by_cases hlt:k<s.size
        · have hok:=(Yb _).1 (HA.out k hlt);by_cases c1:97≤(s[k].toNat:Int)
          · have c2:(s[k].toNat:Int)≤122:=by omega
            clear hok;go_wp2;go_round
            case rel=>exact⟨k+1,by omega,by go_num⟩
            case measure=>simp[intOf];omega
          · have c2:48≤(s[k].toNat:Int):=by omega
            have c3:(s[k].toNat:Int)≤57:=by omega
            clear hok;go_wp2_with (go_at_call 263;refine(qY _ _ c2 c3).mono ?_;rintro e w' ⟨rfl,rfl⟩)
            go_round
            case rel=>exact⟨k+1,by omega,by go_num⟩
            case measure=>simp[intOf];omega
        · go_wp2;go_ret;exact⟨jh HV.out.symm,rfl⟩
     · have HV:=lH (show isName s=false by simp only[isName,Bool.and_eq_false_iff];exact .inr (by simpa using hall));obtain⟨j,hj,hbad⟩:=jdu hall;have HB:=lH hbad;clear hall hbad;go_enter Tryz.func219,Tryz.ntmps219;go_wp2;go_loop [14] (fun i=>∃k:Nat,k≤j∧i=.int .i64 k) (fun i=>s.size-(intOf i).toNat)
       case atStart=>exact⟨0,Nat.zero_le _,rfl⟩
       case round =>
        obtain⟨k,hk,rfl⟩:=hrel;have hlt:k<s.size:=by omega
        by_cases hok:ZF s[k]=true
        · have hkj:k+1≤j:=by
           rcases Nat.lt_or_eq_of_le hk with g | g
           · exact g
           · subst g;rw[HB.out] at hok;cases hok
          have hok:=(Yb _).1 hok;by_cases c1:97≤(s[k].toNat:Int)
          · have c2:(s[k].toNat:Int)≤122:=by omega
            clear hok;go_wp2;go_round
            case rel=>exact⟨k+1,by omega,by go_num⟩
            case measure=>simp[intOf];omega
          · have c2:48≤(s[k].toNat:Int):=by omega
            have c3:(s[k].toNat:Int)≤57:=by omega
            clear hok;go_wp2_with (go_at_call 263;refine(qY _ _ c2 c3).mono ?_;rintro e w' ⟨rfl,rfl⟩)
            go_round
            case rel=>exact⟨k+1,by omega,by go_num⟩
            case measure=>simp[intOf];omega
        · have hbad:¬((97≤(s[k].toNat:Int)∧(s[k].toNat:Int)≤122)∨(48≤(s[k].toNat:Int)∧(s[k].toNat:Int)≤57)):=fun g=>hok ((Yb _).2 g);have c4:(s[k].toNat:Int)<48∨57<(s[k].toNat:Int):=by omega
          have C4:=lH c4;clear hok;by_cases c1:97≤(s[k].toNat:Int)
          · have c2:decide ((s[k].toNat:Int)≤122)=false:=by
             have:122<(s[k].toNat:Int):=by omega
             simpa using this
            clear hbad c4;go_wp2_with (go_at_call 263;refine(jc8 _ _ C4.out).mono ?_;rintro e w' ⟨rfl,rfl⟩)
            go_ret;exact⟨jh HV.out.symm,rfl⟩
          · clear hbad c4;go_wp2_with (go_at_call 263;refine(jc8 _ _ C4.out).mono ?_;rintro e w' ⟨rfl,rfl⟩)
            go_ret;exact⟨jh HV.out.symm,rfl⟩
   · have HV:=lH (show isName s=false by simp[isName,h2]);have h3:12<s.size:=by omega
     clear h2;go_enter Tryz.func219,Tryz.ntmps219;go_wp2;go_ret;exact⟨jh HV.out.symm,rfl⟩
 · have HV:=lH (show isName s=false by simp[isName,h1]);have h0:s=ByteArray.empty:=by
    have:s.size=0:=by omega
    exact jba this
   subst h0;clear h1;go_enter Tryz.func219,Tryz.ntmps219;go_wp2;go_ret;exact⟨jh HV.out.symm,rfl⟩
end Go.Proofs.YthmddloeggdohaaGreatDoor
namespace Go.Proofs
open Go.Shelf
def Tryz.lays169_ren:Go.Shelf.Ren:=⟨fun | 169=>19 | n=>n,fun | 70=>51 | 9=>9 | 0=>0 | 72=>54 | 37=>52 | 127=>113 | 3=>3 | 5=>5 | n=>n,fun | n=>n⟩
theorem Tryz.lays169:Go.Proofs.Lays.n169 Tryz.prog Tryz.lays169_ren:={
 mixed:=by kernel_rfl
 f169:=Tryz.func19.trans (congrArg some (by kernel_rfl))
 t0:=Tryz.underlying0
 a0:=Tryz.isAgg0
 z0:=Tryz.sizeOf0
 v0:=Tryz.zeroValue0
 t3:=Tryz.underlying3
 a3:=Tryz.isAgg3
 z3:=Tryz.sizeOf3
 v3:=Tryz.zeroValue3
 t9:=Tryz.underlying9
 a9:=Tryz.isAgg9
 z9:=Tryz.sizeOf9
 v9:=Tryz.zeroValue9
 t37:=Tryz.underlying52
 a37:=Tryz.isAgg52
 z37:=Tryz.sizeOf52
 v37:=Tryz.zeroValue52
 t70:=Tryz.underlying51
 a70:=Tryz.isAgg51
 z70:=Tryz.sizeOf51
 v70:=Tryz.zeroValue51
 t72:=Tryz.underlying54
 a72:=Tryz.isAgg54
 z72:=Tryz.sizeOf54
 v72:=Tryz.zeroValue54
 t127:=Tryz.underlying113
 a127:=Tryz.isAgg113
 z127:=Tryz.sizeOf113
 v127:=Tryz.zeroValue113 }
theorem Tryz.Builder_Extra_169:Builder.Extra Tryz.prog Tryz.lays169_ren:={
 sizeBuilder:=by kernel_rfl
 liesBuilder:=by kernel_rfl
 t5:=Tryz.underlying5
 a5:=Tryz.isAgg5
 z5:=Tryz.sizeOf5
 v5:=Tryz.zeroValue5
 infoByte:=by kernel_rfl
 cellsByte:=by kernel_rfl
 sizeByte:=by kernel_rfl
 neB5:=by decide }
open Go.RowKit in
theorem Tryz.Builder_String_any (B b:Nat) (l:List UInt8) (w:World) (h:Lib.IsBuilder 54 5 B b (Lib.byteCells l) w) (hBw:B≤w.heap.size) :
 Calls Tryz.prog 19 #[.pointer (some ⟨b,0,none⟩)] w fun e w'=>e=.returned (.string ⟨l.toArray⟩)∧Below B w w':=Any.Builder_String_any Tryz.lays169 Tryz.Builder_Extra_169 B b l w h hBw
def Tryz.lays156_ren:Go.Shelf.Ren:=⟨fun | 156=>68 | 165=>114 | 166=>36 | 169=>19 | 240=>67 | 241=>148 | 276=>113 | 277=>195 | n=>n,fun | 31=>29 | 9=>9 | 3=>3 | 4=>4 | 0=>0 | 20=>20 | 72=>54 | 76=>101 | 70=>51 | 37=>52 | 75=>100 | 127=>113 | 164=>191 | 5=>5 | 80=>68 | n=>n,fun | n=>n⟩
theorem Tryz.lays156:Go.Proofs.Lays.n156 Tryz.prog Tryz.lays156_ren:={
 mixed:=by kernel_rfl
 f156:=Tryz.func68.trans (congrArg some (by kernel_rfl))
 f165:=Tryz.func114.trans (congrArg some (by kernel_rfl))
 f166:=Tryz.func36.trans (congrArg some (by kernel_rfl))
 f169:=Tryz.func19.trans (congrArg some (by kernel_rfl))
 f240:=Tryz.func67.trans (congrArg some (by kernel_rfl))
 f241:=Tryz.func148.trans (congrArg some (by kernel_rfl))
 f276:=Tryz.func113.trans (congrArg some (by kernel_rfl))
 f277:=Tryz.func195.trans (congrArg some (by kernel_rfl))
 t0:=Tryz.underlying0
 a0:=Tryz.isAgg0
 z0:=Tryz.sizeOf0
 v0:=Tryz.zeroValue0
 t3:=Tryz.underlying3
 a3:=Tryz.isAgg3
 z3:=Tryz.sizeOf3
 v3:=Tryz.zeroValue3
 t4:=Tryz.underlying4
 a4:=Tryz.isAgg4
 z4:=Tryz.sizeOf4
 v4:=Tryz.zeroValue4
 t9:=Tryz.underlying9
 a9:=Tryz.isAgg9
 z9:=Tryz.sizeOf9
 v9:=Tryz.zeroValue9
 t20:=Tryz.underlying20
 a20:=Tryz.isAgg20
 z20:=Tryz.sizeOf20
 v20:=Tryz.zeroValue20
 t31:=Tryz.underlying29
 a31:=Tryz.isAgg29
 z31:=Tryz.sizeOf29
 v31:=Tryz.zeroValue29
 t37:=Tryz.underlying52
 a37:=Tryz.isAgg52
 z37:=Tryz.sizeOf52
 v37:=Tryz.zeroValue52
 t70:=Tryz.underlying51
 a70:=Tryz.isAgg51
 z70:=Tryz.sizeOf51
 v70:=Tryz.zeroValue51
 t72:=Tryz.underlying54
 a72:=Tryz.isAgg54
 z72:=Tryz.sizeOf54
 v72:=Tryz.zeroValue54
 t75:=Tryz.underlying100
 a75:=Tryz.isAgg100
 z75:=Tryz.sizeOf100
 v75:=Tryz.zeroValue100
 t76:=Tryz.underlying101
 a76:=Tryz.isAgg101
 z76:=Tryz.sizeOf101
 v76:=Tryz.zeroValue101
 t127:=Tryz.underlying113
 a127:=Tryz.isAgg113
 z127:=Tryz.sizeOf113
 v127:=Tryz.zeroValue113
 t164:=Tryz.underlying191
 a164:=Tryz.isAgg191
 z164:=Tryz.sizeOf191
 v164:=Tryz.zeroValue191 }
theorem Tryz.Builder_Extra_156:Builder.Extra Tryz.prog Tryz.lays156_ren:={
 sizeBuilder:=by kernel_rfl
 liesBuilder:=by kernel_rfl
 t5:=Tryz.underlying5
 a5:=Tryz.isAgg5
 z5:=Tryz.sizeOf5
 v5:=Tryz.zeroValue5
 infoByte:=by kernel_rfl
 cellsByte:=by kernel_rfl
 sizeByte:=by kernel_rfl
 neB5:=by decide }
open Go.RowKit in
theorem Tryz.strings_Join (bk o c:Nat) (xs:List ByteArray) (sep:ByteArray) (w:World) (hcells:∀(j:Nat) x,xs[j]?=some x→w.cell? ⟨bk,o+j,none⟩=some (.string x)) (hbk:bk<w.heap.size) (hN:xs.length≤140737488355328) (hcap:xs.length≤c) (hlen:(Lib.join (xs.map (·.data.toList)) sep.data.toList).length≤140737488355328) :
 Calls Tryz.prog 68 #[.slice (some ⟨bk,o,none⟩) xs.length c,.string sep] w fun e w'=>e=.returned (.string ⟨(Lib.join (xs.map (·.data.toList)) sep.data.toList).toArray⟩)∧Below w.heap.size w w':=Any.strings_Join Tryz.lays156 Tryz.Builder_Extra_156 bk o c xs sep w hcells hbk hN hcap hlen
def Tryz.lays137_ren:Go.Shelf.Ren:=⟨fun | 137=>80 | 217=>116 | 266=>153 | n=>n,fun | 9=>9 | 5=>5 | 3=>3 | n=>n,fun | n=>n⟩
theorem Tryz.lays137:Go.Proofs.Lays.n137 Tryz.prog Tryz.lays137_ren:={
 mixed:=by kernel_rfl
 f137:=Tryz.func80.trans (congrArg some (by kernel_rfl))
 f217:=Tryz.func116.trans (congrArg some (by kernel_rfl))
 f266:=Tryz.func153.trans (congrArg some (by kernel_rfl))
 t3:=Tryz.underlying3
 a3:=Tryz.isAgg3
 z3:=Tryz.sizeOf3
 v3:=Tryz.zeroValue3
 t5:=Tryz.underlying5
 a5:=Tryz.isAgg5
 z5:=Tryz.sizeOf5
 v5:=Tryz.zeroValue5
 t9:=Tryz.underlying9
 a9:=Tryz.isAgg9
 z9:=Tryz.sizeOf9
 v9:=Tryz.zeroValue9 }
open Go.RowKit in
theorem Tryz.strings_IndexByte (s:ByteArray) (c:Int) (w:World) :
 Calls Tryz.prog 80 #[.string s,.int .u8 c] w fun e w'=>e=.returned (.int .i64 (Lib.indexByte s.data.toList c.toNat.toUInt8))∧w'=w:=Any.strings_IndexByte Tryz.lays137 s c w
def Tryz.lays103_ren:Go.Shelf.Ren:=⟨fun | 103=>268 | 210=>294 | 206=>117 | n=>n,fun | 9=>9 | 4=>4 | 24=>321 | 3=>3 | n=>n,fun | n=>n⟩
theorem Tryz.lays103:Go.Proofs.Lays.n103 Tryz.prog Tryz.lays103_ren:={
 mixed:=by kernel_rfl
 f103:=Tryz.func268.trans (congrArg some (by kernel_rfl))
 f206:=Tryz.func117.trans (congrArg some (by kernel_rfl))
 f210:=Tryz.func294.trans (congrArg some (by kernel_rfl))
 t3:=Tryz.underlying3
 a3:=Tryz.isAgg3
 z3:=Tryz.sizeOf3
 v3:=Tryz.zeroValue3
 t4:=Tryz.underlying4
 a4:=Tryz.isAgg4
 z4:=Tryz.sizeOf4
 v4:=Tryz.zeroValue4
 t9:=Tryz.underlying9
 a9:=Tryz.isAgg9
 z9:=Tryz.sizeOf9
 v9:=Tryz.zeroValue9
 t24:=Tryz.underlying321
 a24:=Tryz.isAgg321
 z24:=Tryz.sizeOf321
 v24:=Tryz.zeroValue321 }
open Go.RowKit in
theorem Tryz.strings_CutPrefix (s p:ByteArray) (w:World) :
 Calls Tryz.prog 268 #[.string s,.string p] w fun e w'=>e=.returned (.tuple #[.string ⟨(Lib.trimPrefix s.data.toList p.data.toList).toArray⟩,.bool (Lib.hasPrefix s.data.toList p.data.toList)])∧w'=w:=Any.strings_CutPrefix Tryz.lays103 s p w
def Tryz.lays104_ren:Go.Shelf.Ren:=⟨fun | 104=>261 | 211=>290 | 207=>138 | n=>n,fun | 9=>9 | 4=>4 | 24=>321 | 3=>3 | n=>n,fun | n=>n⟩
theorem Tryz.lays104:Go.Proofs.Lays.n104 Tryz.prog Tryz.lays104_ren:={
 mixed:=by kernel_rfl
 f104:=Tryz.func261.trans (congrArg some (by kernel_rfl))
 f207:=Tryz.func138.trans (congrArg some (by kernel_rfl))
 f211:=Tryz.func290.trans (congrArg some (by kernel_rfl))
 t3:=Tryz.underlying3
 a3:=Tryz.isAgg3
 z3:=Tryz.sizeOf3
 v3:=Tryz.zeroValue3
 t4:=Tryz.underlying4
 a4:=Tryz.isAgg4
 z4:=Tryz.sizeOf4
 v4:=Tryz.zeroValue4
 t9:=Tryz.underlying9
 a9:=Tryz.isAgg9
 z9:=Tryz.sizeOf9
 v9:=Tryz.zeroValue9
 t24:=Tryz.underlying321
 a24:=Tryz.isAgg321
 z24:=Tryz.sizeOf321
 v24:=Tryz.zeroValue321 }
open Go.RowKit in
theorem Tryz.strings_CutSuffix (s p:ByteArray) (w:World) (hs:s.size≤9223372036854775807) :
 Calls Tryz.prog 261 #[.string s,.string p] w fun e w'=>e=.returned (.tuple #[.string ⟨(Lib.trimSuffix s.data.toList p.data.toList).toArray⟩,.bool (Lib.hasSuffix s.data.toList p.data.toList)])∧w'=w:=Any.strings_CutSuffix Tryz.lays104 s p w hs
def Tryz.laysM171_ren:Go.Shelf.Ren:=⟨fun | 171=>43 | 243=>74 | 246=>115 | 283=>149 | 284=>150 | 285=>151 | 286=>152 | 129=>197 | 317=>196 | 318=>198 | 319=>199 | 320=>200 | 337=>247 | 338=>248 | n=>n,fun | 3=>3 | 9=>9 | 2=>2 | 4=>4 | 171=>227 | 0=>0 | 53=>228 | 37=>52 | 5=>5 | 173=>231 | 212=>273 | 51=>274 | 20=>20 | 213=>275 | 46=>233 | 232=>342 | 233=>343 | n=>n,fun | 17=>0 | 18=>2 | 19=>3 | n=>n⟩
theorem Tryz.laysM171:Go.Proofs.LaysM.n171 Tryz.prog Tryz.laysM171_ren:={
 mixed:=by kernel_rfl
 f129:=Tryz.func197.trans (congrArg some (by kernel_rfl))
 f171:=Tryz.func43.trans (congrArg some (by kernel_rfl))
 f243:=Tryz.func74.trans (congrArg some (by kernel_rfl))
 f246:=Tryz.func115.trans (congrArg some (by kernel_rfl))
 f283:=Tryz.func149.trans (congrArg some (by kernel_rfl))
 f284:=Tryz.func150.trans (congrArg some (by kernel_rfl))
 f285:=Tryz.func151.trans (congrArg some (by kernel_rfl))
 f286:=Tryz.func152.trans (congrArg some (by kernel_rfl))
 f317:=Tryz.func196.trans (congrArg some (by kernel_rfl))
 f318:=Tryz.func198.trans (congrArg some (by kernel_rfl))
 f319:=Tryz.func199.trans (congrArg some (by kernel_rfl))
 f320:=Tryz.func200.trans (congrArg some (by kernel_rfl))
 f337:=Tryz.func247.trans (congrArg some (by kernel_rfl))
 f338:=Tryz.func248.trans (congrArg some (by kernel_rfl))
 t0:=Tryz.underlying0
 a0:=Tryz.isAgg0
 z0:=Tryz.sizeOf0
 v0:=Tryz.zeroValue0
 t2:=Tryz.underlying2
 a2:=Tryz.isAgg2
 z2:=Tryz.sizeOf2
 v2:=Tryz.zeroValue2
 t3:=Tryz.underlying3
 a3:=Tryz.isAgg3
 z3:=Tryz.sizeOf3
 v3:=Tryz.zeroValue3
 t4:=Tryz.underlying4
 a4:=Tryz.isAgg4
 z4:=Tryz.sizeOf4
 v4:=Tryz.zeroValue4
 t5:=Tryz.underlying5
 a5:=Tryz.isAgg5
 z5:=Tryz.sizeOf5
 v5:=Tryz.zeroValue5
 t9:=Tryz.underlying9
 a9:=Tryz.isAgg9
 z9:=Tryz.sizeOf9
 v9:=Tryz.zeroValue9
 t20:=Tryz.underlying20
 a20:=Tryz.isAgg20
 z20:=Tryz.sizeOf20
 v20:=Tryz.zeroValue20
 t37:=Tryz.underlying52
 a37:=Tryz.isAgg52
 z37:=Tryz.sizeOf52
 v37:=Tryz.zeroValue52
 t46:=Tryz.underlying233
 a46:=Tryz.isAgg233
 z46:=Tryz.sizeOf233
 v46:=Tryz.zeroValue233
 t51:=Tryz.underlying274
 a51:=Tryz.isAgg274
 z51:=Tryz.sizeOf274
 v51:=Tryz.zeroValue274
 t53:=Tryz.underlying228
 a53:=Tryz.isAgg228
 z53:=Tryz.sizeOf228
 v53:=Tryz.zeroValue228
 t171:=Tryz.underlying227
 a171:=Tryz.isAgg227
 z171:=Tryz.sizeOf227
 v171:=Tryz.zeroValue227
 t173:=Tryz.underlying231
 a173:=Tryz.isAgg231
 z173:=Tryz.sizeOf231
 v173:=Tryz.zeroValue231
 t212:=Tryz.underlying273
 a212:=Tryz.isAgg273
 z212:=Tryz.sizeOf273
 v212:=Tryz.zeroValue273
 t213:=Tryz.underlying275
 a213:=Tryz.isAgg275
 z213:=Tryz.sizeOf275
 t232:=Tryz.underlying342
 a232:=Tryz.isAgg342
 z232:=Tryz.sizeOf342
 v232:=Tryz.zeroValue342
 t233:=Tryz.underlying343
 a233:=Tryz.isAgg343
 z233:=Tryz.sizeOf343
 v233:=Tryz.zeroValue343
 g17:=by kernel_rfl
 g18:=by kernel_rfl
 g19:=by kernel_rfl
 i0:=by kernel_rfl
 i2:=by kernel_rfl
 i3:=by kernel_rfl
 i4:=by kernel_rfl
 i5:=by kernel_rfl
 i9:=by kernel_rfl
 i20:=by kernel_rfl
 i37:=by kernel_rfl
 i46:=by kernel_rfl
 i51:=by kernel_rfl
 i53:=by kernel_rfl
 i171:=by kernel_rfl
 i173:=by kernel_rfl
 i212:=by kernel_rfl
 i232:=by kernel_rfl
 i233:=by kernel_rfl
 m17:=by kernel_rfl
 m18:=by kernel_rfl
 m19:=by kernel_rfl }
open Go.RowKit Go.Sort Go.Lib in
theorem Tryz.strconv_Itoa (n:Int) (h0:-9223372036854775808≤n) (h1:n≤9223372036854775807) (w:World) (htab:Lib.TabIs Tryz.prog w "internal/strconv.uint64pow10" .u64 Lib.pow10Tab) :
 Calls Tryz.prog 43 #[.int .i64 n] w fun e w'=>e=.returned (.string ⟨(Lib.itoa n).toArray⟩)∧∃k os,w'=grow (w.drewN k) os:=Any.strconv_Itoa Tryz.laysM171 n h0 h1 w htab
def Tryz.laysM173_ren:Go.Shelf.Ren:=⟨fun | 173=>69 | 246=>115 | 283=>149 | 284=>150 | 285=>151 | 286=>152 | 129=>197 | 317=>196 | 318=>198 | 319=>199 | 320=>200 | 337=>247 | 338=>248 | n=>n,fun | 2=>2 | 3=>3 | 9=>9 | 4=>4 | 171=>227 | 0=>0 | 53=>228 | 37=>52 | 5=>5 | 173=>231 | 212=>273 | 51=>274 | 20=>20 | 213=>275 | 46=>233 | 232=>342 | 233=>343 | n=>n,fun | 17=>0 | 18=>2 | 19=>3 | n=>n⟩
theorem Tryz.laysM173:Go.Proofs.LaysM.n173 Tryz.prog Tryz.laysM173_ren:={
 mixed:=by kernel_rfl
 f129:=Tryz.func197.trans (congrArg some (by kernel_rfl))
 f173:=Tryz.func69.trans (congrArg some (by kernel_rfl))
 f246:=Tryz.func115.trans (congrArg some (by kernel_rfl))
 f283:=Tryz.func149.trans (congrArg some (by kernel_rfl))
 f284:=Tryz.func150.trans (congrArg some (by kernel_rfl))
 f285:=Tryz.func151.trans (congrArg some (by kernel_rfl))
 f286:=Tryz.func152.trans (congrArg some (by kernel_rfl))
 f317:=Tryz.func196.trans (congrArg some (by kernel_rfl))
 f318:=Tryz.func198.trans (congrArg some (by kernel_rfl))
 f319:=Tryz.func199.trans (congrArg some (by kernel_rfl))
 f320:=Tryz.func200.trans (congrArg some (by kernel_rfl))
 f337:=Tryz.func247.trans (congrArg some (by kernel_rfl))
 f338:=Tryz.func248.trans (congrArg some (by kernel_rfl))
 t0:=Tryz.underlying0
 a0:=Tryz.isAgg0
 z0:=Tryz.sizeOf0
 v0:=Tryz.zeroValue0
 t2:=Tryz.underlying2
 a2:=Tryz.isAgg2
 z2:=Tryz.sizeOf2
 v2:=Tryz.zeroValue2
 t3:=Tryz.underlying3
 a3:=Tryz.isAgg3
 z3:=Tryz.sizeOf3
 v3:=Tryz.zeroValue3
 t4:=Tryz.underlying4
 a4:=Tryz.isAgg4
 z4:=Tryz.sizeOf4
 v4:=Tryz.zeroValue4
 t5:=Tryz.underlying5
 a5:=Tryz.isAgg5
 z5:=Tryz.sizeOf5
 v5:=Tryz.zeroValue5
 t9:=Tryz.underlying9
 a9:=Tryz.isAgg9
 z9:=Tryz.sizeOf9
 v9:=Tryz.zeroValue9
 t20:=Tryz.underlying20
 a20:=Tryz.isAgg20
 z20:=Tryz.sizeOf20
 v20:=Tryz.zeroValue20
 t37:=Tryz.underlying52
 a37:=Tryz.isAgg52
 z37:=Tryz.sizeOf52
 v37:=Tryz.zeroValue52
 t46:=Tryz.underlying233
 a46:=Tryz.isAgg233
 z46:=Tryz.sizeOf233
 v46:=Tryz.zeroValue233
 t51:=Tryz.underlying274
 a51:=Tryz.isAgg274
 z51:=Tryz.sizeOf274
 v51:=Tryz.zeroValue274
 t53:=Tryz.underlying228
 a53:=Tryz.isAgg228
 z53:=Tryz.sizeOf228
 v53:=Tryz.zeroValue228
 t171:=Tryz.underlying227
 a171:=Tryz.isAgg227
 z171:=Tryz.sizeOf227
 v171:=Tryz.zeroValue227
 t173:=Tryz.underlying231
 a173:=Tryz.isAgg231
 z173:=Tryz.sizeOf231
 v173:=Tryz.zeroValue231
 t212:=Tryz.underlying273
 a212:=Tryz.isAgg273
 z212:=Tryz.sizeOf273
 v212:=Tryz.zeroValue273
 t213:=Tryz.underlying275
 a213:=Tryz.isAgg275
 z213:=Tryz.sizeOf275
 t232:=Tryz.underlying342
 a232:=Tryz.isAgg342
 z232:=Tryz.sizeOf342
 v232:=Tryz.zeroValue342
 t233:=Tryz.underlying343
 a233:=Tryz.isAgg343
 z233:=Tryz.sizeOf343
 v233:=Tryz.zeroValue343
 g17:=by kernel_rfl
 g18:=by kernel_rfl
 g19:=by kernel_rfl
 i0:=by kernel_rfl
 i2:=by kernel_rfl
 i3:=by kernel_rfl
 i4:=by kernel_rfl
 i5:=by kernel_rfl
 i9:=by kernel_rfl
 i20:=by kernel_rfl
 i37:=by kernel_rfl
 i46:=by kernel_rfl
 i51:=by kernel_rfl
 i53:=by kernel_rfl
 i171:=by kernel_rfl
 i173:=by kernel_rfl
 i212:=by kernel_rfl
 i232:=by kernel_rfl
 i233:=by kernel_rfl
 m17:=by kernel_rfl
 m18:=by kernel_rfl
 m19:=by kernel_rfl }
open Go.RowKit Go.Sort Go.Lib in
theorem Tryz.strconv_FormatInt_10 (n:Int) (h0:-9223372036854775808≤n) (h1:n≤9223372036854775807) (w:World) (htab:Lib.TabIs Tryz.prog w "internal/strconv.uint64pow10" .u64 Lib.pow10Tab) :
 Calls Tryz.prog 69 #[.int .i64 n,.int .i64 10] w fun e w'=>e=.returned (.string ⟨(Lib.itoa n).toArray⟩)∧∃k os,w'=grow (w.drewN k) os:=Any.strconv_FormatInt_10 Tryz.laysM173 n h0 h1 w htab
def Tryz.laysM316_ren:Go.Shelf.Ren:=⟨fun | 316=>205 | n=>n,fun | 9=>9 | 3=>3 | 4=>4 | 37=>52 | 0=>0 | 127=>113 | 5=>5 | n=>n,fun | n=>n⟩
theorem Tryz.laysM316:Go.Proofs.LaysM.n316 Tryz.prog Tryz.laysM316_ren:={
 mixed:=by kernel_rfl
 f316:=Tryz.func205.trans (congrArg some (by kernel_rfl))
 t0:=Tryz.underlying0
 a0:=Tryz.isAgg0
 z0:=Tryz.sizeOf0
 v0:=Tryz.zeroValue0
 t3:=Tryz.underlying3
 a3:=Tryz.isAgg3
 z3:=Tryz.sizeOf3
 v3:=Tryz.zeroValue3
 t4:=Tryz.underlying4
 a4:=Tryz.isAgg4
 z4:=Tryz.sizeOf4
 v4:=Tryz.zeroValue4
 t9:=Tryz.underlying9
 a9:=Tryz.isAgg9
 z9:=Tryz.sizeOf9
 v9:=Tryz.zeroValue9
 t37:=Tryz.underlying52
 a37:=Tryz.isAgg52
 z37:=Tryz.sizeOf52
 v37:=Tryz.zeroValue52
 t127:=Tryz.underlying113
 a127:=Tryz.isAgg113
 z127:=Tryz.sizeOf113
 v127:=Tryz.zeroValue113
 t5:=Tryz.underlying5
 a5:=Tryz.isAgg5
 z5:=Tryz.sizeOf5
 v5:=Tryz.zeroValue5
 i0:=by kernel_rfl
 i3:=by kernel_rfl
 i4:=by kernel_rfl
 i5:=by kernel_rfl
 i9:=by kernel_rfl
 i37:=by kernel_rfl
 i127:=by kernel_rfl }
open Go.RowKit in
theorem Tryz.stringslite_Clone (s:ByteArray) (w:World) (hlim:s.size≤281474976710656) :
 Calls Tryz.prog 205 #[.string s] w fun e w'=>e=.returned (.string s)∧Below w.heap.size w w':=Any.stringslite_Clone Tryz.laysM316 s w hlim
def Tryz.laysC174_ren:Go.Shelf.Ren:=⟨fun | 174=>238 | 247=>274 | 245=>275 | 287=>296 | 279=>297 | 280=>298 | 281=>299 | 282=>300 | 321=>304 | 322=>305 | 316=>205 | 171=>43 | 205=>306 | 243=>74 | 246=>115 | 283=>149 | 284=>150 | 285=>151 | 286=>152 | 129=>197 | 317=>196 | 318=>198 | 319=>199 | 320=>200 | 337=>247 | 338=>248 | n=>n,fun | 9=>9 | 3=>3 | 2=>2 | 75=>100 | 85=>307 | 4=>4 | 167=>348 | 5=>5 | 53=>228 | 175=>349 | 46=>233 | 168=>351 | 37=>52 | 0=>0 | 210=>359 | 21=>21 | 127=>113 | 145=>363 | 143=>361 | 171=>227 | 173=>231 | 212=>273 | 51=>274 | 20=>20 | 213=>275 | 232=>342 | 233=>343 | 80=>68 | n=>n,fun | 15=>4 | 16=>5 | 17=>0 | 18=>2 | 19=>3 | n=>n⟩
theorem Tryz.laysC174:Go.Proofs.LaysC.n174 Tryz.prog Tryz.laysC174_ren:={
 mixed:=by kernel_rfl
 f129:=Tryz.func197.trans (congrArg some (by kernel_rfl))
 f171:=Tryz.func43.trans (congrArg some (by kernel_rfl))
 f174:=Tryz.func238.trans (congrArg some (by kernel_rfl))
 f205:=Tryz.func306.trans (congrArg some (by kernel_rfl))
 f243:=Tryz.func74.trans (congrArg some (by kernel_rfl))
 f245:=Tryz.func275.trans (congrArg some (by kernel_rfl))
 f246:=Tryz.func115.trans (congrArg some (by kernel_rfl))
 f247:=Tryz.func274.trans (congrArg some (by kernel_rfl))
 f279:=Tryz.func297.trans (congrArg some (by kernel_rfl))
 f280:=Tryz.func298.trans (congrArg some (by kernel_rfl))
 f281:=Tryz.func299.trans (congrArg some (by kernel_rfl))
 f282:=Tryz.func300.trans (congrArg some (by kernel_rfl))
 f283:=Tryz.func149.trans (congrArg some (by kernel_rfl))
 f284:=Tryz.func150.trans (congrArg some (by kernel_rfl))
 f285:=Tryz.func151.trans (congrArg some (by kernel_rfl))
 f286:=Tryz.func152.trans (congrArg some (by kernel_rfl))
 f287:=Tryz.func296.trans (congrArg some (by kernel_rfl))
 f316:=Tryz.func205.trans (congrArg some (by kernel_rfl))
 f317:=Tryz.func196.trans (congrArg some (by kernel_rfl))
 f318:=Tryz.func198.trans (congrArg some (by kernel_rfl))
 f319:=Tryz.func199.trans (congrArg some (by kernel_rfl))
 f320:=Tryz.func200.trans (congrArg some (by kernel_rfl))
 f321:=Tryz.func304.trans (congrArg some (by kernel_rfl))
 f322:=Tryz.func305.trans (congrArg some (by kernel_rfl))
 f337:=Tryz.func247.trans (congrArg some (by kernel_rfl))
 f338:=Tryz.func248.trans (congrArg some (by kernel_rfl))
 t0:=Tryz.underlying0
 a0:=Tryz.isAgg0
 z0:=Tryz.sizeOf0
 v0:=Tryz.zeroValue0
 t2:=Tryz.underlying2
 a2:=Tryz.isAgg2
 z2:=Tryz.sizeOf2
 v2:=Tryz.zeroValue2
 t3:=Tryz.underlying3
 a3:=Tryz.isAgg3
 z3:=Tryz.sizeOf3
 v3:=Tryz.zeroValue3
 t4:=Tryz.underlying4
 a4:=Tryz.isAgg4
 z4:=Tryz.sizeOf4
 v4:=Tryz.zeroValue4
 t5:=Tryz.underlying5
 a5:=Tryz.isAgg5
 z5:=Tryz.sizeOf5
 v5:=Tryz.zeroValue5
 t9:=Tryz.underlying9
 a9:=Tryz.isAgg9
 z9:=Tryz.sizeOf9
 v9:=Tryz.zeroValue9
 t20:=Tryz.underlying20
 a20:=Tryz.isAgg20
 z20:=Tryz.sizeOf20
 v20:=Tryz.zeroValue20
 t21:=Tryz.underlying21
 a21:=Tryz.isAgg21
 z21:=Tryz.sizeOf21
 v21:=Tryz.zeroValue21
 t37:=Tryz.underlying52
 a37:=Tryz.isAgg52
 z37:=Tryz.sizeOf52
 v37:=Tryz.zeroValue52
 t46:=Tryz.underlying233
 a46:=Tryz.isAgg233
 z46:=Tryz.sizeOf233
 v46:=Tryz.zeroValue233
 t51:=Tryz.underlying274
 a51:=Tryz.isAgg274
 z51:=Tryz.sizeOf274
 v51:=Tryz.zeroValue274
 t53:=Tryz.underlying228
 a53:=Tryz.isAgg228
 z53:=Tryz.sizeOf228
 v53:=Tryz.zeroValue228
 t75:=Tryz.underlying100
 a75:=Tryz.isAgg100
 z75:=Tryz.sizeOf100
 v75:=Tryz.zeroValue100
 t85:=Tryz.underlying307
 a85:=Tryz.isAgg307
 z85:=Tryz.sizeOf307
 v85:=Tryz.zeroValue307
 t127:=Tryz.underlying113
 a127:=Tryz.isAgg113
 z127:=Tryz.sizeOf113
 v127:=Tryz.zeroValue113
 t143:=Tryz.underlying361
 a143:=Tryz.isAgg361
 z143:=Tryz.sizeOf361
 v143:=Tryz.zeroValue361
 t145:=Tryz.underlying363
 a145:=Tryz.isAgg363
 z145:=Tryz.sizeOf363
 v145:=Tryz.zeroValue363
 t167:=Tryz.underlying348
 a167:=Tryz.isAgg348
 z167:=Tryz.sizeOf348
 v167:=Tryz.zeroValue348
 t168:=Tryz.underlying351
 a168:=Tryz.isAgg351
 z168:=Tryz.sizeOf351
 v168:=Tryz.zeroValue351
 t171:=Tryz.underlying227
 a171:=Tryz.isAgg227
 z171:=Tryz.sizeOf227
 v171:=Tryz.zeroValue227
 t173:=Tryz.underlying231
 a173:=Tryz.isAgg231
 z173:=Tryz.sizeOf231
 v173:=Tryz.zeroValue231
 t175:=Tryz.underlying349
 a175:=Tryz.isAgg349
 z175:=Tryz.sizeOf349
 v175:=Tryz.zeroValue349
 t210:=Tryz.underlying359
 a210:=Tryz.isAgg359
 z210:=Tryz.sizeOf359
 v210:=Tryz.zeroValue359
 t212:=Tryz.underlying273
 a212:=Tryz.isAgg273
 z212:=Tryz.sizeOf273
 v212:=Tryz.zeroValue273
 t213:=Tryz.underlying275
 a213:=Tryz.isAgg275
 z213:=Tryz.sizeOf275
 t232:=Tryz.underlying342
 a232:=Tryz.isAgg342
 z232:=Tryz.sizeOf342
 v232:=Tryz.zeroValue342
 t233:=Tryz.underlying343
 a233:=Tryz.isAgg343
 z233:=Tryz.sizeOf343
 v233:=Tryz.zeroValue343
 g15:=by kernel_rfl
 g16:=by kernel_rfl
 g17:=by kernel_rfl
 g18:=by kernel_rfl
 g19:=by kernel_rfl
 t80:=Tryz.underlying68
 a80:=Tryz.isAgg68
 z80:=Tryz.sizeOf68
 v80:=Tryz.zeroValue68
 i0:=by kernel_rfl
 i2:=by kernel_rfl
 i3:=by kernel_rfl
 i4:=by kernel_rfl
 i5:=by kernel_rfl
 i9:=by kernel_rfl
 i20:=by kernel_rfl
 i21:=by kernel_rfl
 i37:=by kernel_rfl
 i46:=by kernel_rfl
 i51:=by kernel_rfl
 i53:=by kernel_rfl
 i75:=by kernel_rfl
 i80:=by kernel_rfl
 i85:=by kernel_rfl
 i127:=by kernel_rfl
 i143:=by kernel_rfl
 i145:=by kernel_rfl
 i167:=by kernel_rfl
 i168:=by kernel_rfl
 i171:=by kernel_rfl
 i173:=by kernel_rfl
 i175:=by kernel_rfl
 i210:=by kernel_rfl
 i212:=by kernel_rfl
 i232:=by kernel_rfl
 i233:=by kernel_rfl
 m15:=by kernel_rfl
 m16:=by kernel_rfl
 m17:=by kernel_rfl
 m18:=by kernel_rfl
 m19:=by kernel_rfl
 c0:=by kernel_rfl
 c2:=by kernel_rfl
 c3:=by kernel_rfl
 c4:=by kernel_rfl
 c5:=by kernel_rfl
 c9:=by kernel_rfl
 c20:=by kernel_rfl
 c21:=by kernel_rfl
 c37:=by kernel_rfl
 c46:=by kernel_rfl
 c51:=by kernel_rfl
 c53:=by kernel_rfl
 c75:=by kernel_rfl
 c80:=by kernel_rfl
 c85:=by kernel_rfl
 c127:=by kernel_rfl
 c143:=by kernel_rfl
 c145:=by kernel_rfl
 c167:=by kernel_rfl
 c168:=by kernel_rfl
 c171:=by kernel_rfl
 c173:=by kernel_rfl
 c175:=by kernel_rfl
 c210:=by kernel_rfl
 c212:=by kernel_rfl
 c213:=by kernel_rfl
 c232:=by kernel_rfl
 c233:=by kernel_rfl }
open Go.RowKit in
theorem Tryz.strconv_ParseInt_10_at64_ok (s:ByteArray) (hmax:s.size≤9223372036854775806) (v:Int) (h:Lib.parseIntB 64 s.data.toList=.ok v) (w:World) :
 Calls Tryz.prog 238 #[.string s,.int .i64 10,.int .i64 64] w fun e w'=>e=.returned (.tuple #[.int .i64 v,.nilIface])∧(w'=w∨∃t,w'=Lib.bytesWorld w 5 t):=Any.strconv_ParseInt_10_at64_ok Tryz.laysC174 s hmax v h w
open Go.RowKit in
theorem Tryz.strconv_ParseInt_10_at64_range (s:ByteArray) (hlim:s.size≤281474976710656) (h:Lib.parseIntB 64 s.data.toList=.range) (ev:Value) (w:World) (hv:w.cell? ⟨5,0,none⟩=some ev) (hev:ev=.nilIface∨∃te pe,ev=.iface te pe) :
 Calls Tryz.prog 238 #[.string s,.int .i64 10,.int .i64 64] w fun e w'=>∃N,e=.returned (.tuple #[.int .i64 (Lib.intSat 64 s.data.toList),.iface 351 (.pointer (some ⟨N,0,none⟩))])∧w.heap.size≤N∧w'.heap[N]?=some (.cells #[.string ⟨#[80,97,114,115,101,73,110,116]⟩,.string s,ev] 359 (0,0))∧Below w.heap.size w w':=Any.strconv_ParseInt_10_at64_range Tryz.laysC174 s hlim h ev w hv hev
open Go.RowKit in
theorem Tryz.strconv_ParseInt_10_at32_ok (s:ByteArray) (hmax:s.size≤9223372036854775806) (v:Int) (h:Lib.parseIntB 32 s.data.toList=.ok v) (w:World) :
 Calls Tryz.prog 238 #[.string s,.int .i64 10,.int .i64 32] w fun e w'=>e=.returned (.tuple #[.int .i64 v,.nilIface])∧(w'=w∨∃t,w'=Lib.bytesWorld w 5 t):=Any.strconv_ParseInt_10_at32_ok Tryz.laysC174 s hmax v h w
def Tryz.lays143_ren:Go.Shelf.Ren:=⟨fun | 143=>287 | 219=>154 | 217=>116 | 225=>201 | 224=>202 | 267=>203 | 266=>153 | 314=>249 | n=>n,fun | 9=>9 | 3=>3 | 4=>4 | 5=>5 | 46=>233 | 146=>315 | 51=>274 | n=>n,fun | 1=>1 | n=>n⟩
theorem Tryz.lays143:Go.Proofs.Lays.n143 Tryz.prog Tryz.lays143_ren:={
 mixed:=by kernel_rfl
 f143:=Tryz.func287.trans (congrArg some (by kernel_rfl))
 f217:=Tryz.func116.trans (congrArg some (by kernel_rfl))
 f219:=Tryz.func154.trans (congrArg some (by kernel_rfl))
 f224:=Tryz.func202.trans (congrArg some (by kernel_rfl))
 f225:=Tryz.func201.trans (congrArg some (by kernel_rfl))
 f266:=Tryz.func153.trans (congrArg some (by kernel_rfl))
 f267:=Tryz.func203.trans (congrArg some (by kernel_rfl))
 f314:=Tryz.func249.trans (congrArg some (by kernel_rfl))
 t3:=Tryz.underlying3
 a3:=Tryz.isAgg3
 z3:=Tryz.sizeOf3
 v3:=Tryz.zeroValue3
 t4:=Tryz.underlying4
 a4:=Tryz.isAgg4
 z4:=Tryz.sizeOf4
 v4:=Tryz.zeroValue4
 t5:=Tryz.underlying5
 a5:=Tryz.isAgg5
 z5:=Tryz.sizeOf5
 v5:=Tryz.zeroValue5
 t9:=Tryz.underlying9
 a9:=Tryz.isAgg9
 z9:=Tryz.sizeOf9
 v9:=Tryz.zeroValue9
 t46:=Tryz.underlying233
 a46:=Tryz.isAgg233
 z46:=Tryz.sizeOf233
 v46:=Tryz.zeroValue233
 t51:=Tryz.underlying274
 a51:=Tryz.isAgg274
 z51:=Tryz.sizeOf274
 v51:=Tryz.zeroValue274
 t146:=Tryz.underlying315
 a146:=Tryz.isAgg315
 z146:=Tryz.sizeOf315
 v146:=Tryz.zeroValue315
 g1:=by kernel_rfl }
open Go.RowKit Go.Lib in
theorem Tryz.strings_Index (s sub:ByteArray) (m:Int) (w:World) (hs:s.size<4294967281) (hm:w.cell? ⟨1,0,none⟩=some (.int .i64 m)) :
 Calls Tryz.prog 287 #[.string s,.string sub] w fun e w'=>e=.returned (.int .i64 (Lib.index s.data.toList sub.data.toList))∧w'=w:=Any.strings_Index Tryz.lays143 s sub m w hs hm
def Tryz.lays144_ren:Go.Shelf.Ren:=⟨fun | 144=>258 | 143=>287 | 219=>154 | 217=>116 | 225=>201 | 224=>202 | 267=>203 | 266=>153 | 314=>249 | n=>n,fun | 9=>9 | 4=>4 | 3=>3 | 5=>5 | 46=>233 | 146=>315 | 51=>274 | n=>n,fun | 1=>1 | n=>n⟩
theorem Tryz.lays144:Go.Proofs.Lays.n144 Tryz.prog Tryz.lays144_ren:={
 mixed:=by kernel_rfl
 f143:=Tryz.func287.trans (congrArg some (by kernel_rfl))
 f144:=Tryz.func258.trans (congrArg some (by kernel_rfl))
 f217:=Tryz.func116.trans (congrArg some (by kernel_rfl))
 f219:=Tryz.func154.trans (congrArg some (by kernel_rfl))
 f224:=Tryz.func202.trans (congrArg some (by kernel_rfl))
 f225:=Tryz.func201.trans (congrArg some (by kernel_rfl))
 f266:=Tryz.func153.trans (congrArg some (by kernel_rfl))
 f267:=Tryz.func203.trans (congrArg some (by kernel_rfl))
 f314:=Tryz.func249.trans (congrArg some (by kernel_rfl))
 t3:=Tryz.underlying3
 a3:=Tryz.isAgg3
 z3:=Tryz.sizeOf3
 v3:=Tryz.zeroValue3
 t4:=Tryz.underlying4
 a4:=Tryz.isAgg4
 z4:=Tryz.sizeOf4
 v4:=Tryz.zeroValue4
 t5:=Tryz.underlying5
 a5:=Tryz.isAgg5
 z5:=Tryz.sizeOf5
 v5:=Tryz.zeroValue5
 t9:=Tryz.underlying9
 a9:=Tryz.isAgg9
 z9:=Tryz.sizeOf9
 v9:=Tryz.zeroValue9
 t46:=Tryz.underlying233
 a46:=Tryz.isAgg233
 z46:=Tryz.sizeOf233
 v46:=Tryz.zeroValue233
 t51:=Tryz.underlying274
 a51:=Tryz.isAgg274
 z51:=Tryz.sizeOf274
 v51:=Tryz.zeroValue274
 t146:=Tryz.underlying315
 a146:=Tryz.isAgg315
 z146:=Tryz.sizeOf315
 v146:=Tryz.zeroValue315
 g1:=by kernel_rfl }
open Go.RowKit Go.Lib in
theorem Tryz.strings_Contains_one (s:ByteArray) (c:UInt8) (w:World) :
 Calls Tryz.prog 258 #[.string s,.string ⟨#[c]⟩] w fun e w'=>e=.returned (.bool (decide (0≤Lib.indexByte s.data.toList c)))∧w'=w:=Any.strings_Contains_one Tryz.lays144 s c w
def Tryz.lays145_ren:Go.Shelf.Ren:=⟨fun | 145=>82 | 220=>118 | 219=>154 | 217=>116 | 225=>201 | 224=>202 | 267=>203 | 266=>153 | 314=>249 | n=>n,fun | 9=>9 | 4=>4 | 59=>161 | 3=>3 | 5=>5 | 46=>233 | 146=>315 | 51=>274 | n=>n,fun | 1=>1 | n=>n⟩
theorem Tryz.lays145:Go.Proofs.Lays.n145 Tryz.prog Tryz.lays145_ren:={
 mixed:=by kernel_rfl
 f145:=Tryz.func82.trans (congrArg some (by kernel_rfl))
 f217:=Tryz.func116.trans (congrArg some (by kernel_rfl))
 f219:=Tryz.func154.trans (congrArg some (by kernel_rfl))
 f220:=Tryz.func118.trans (congrArg some (by kernel_rfl))
 f224:=Tryz.func202.trans (congrArg some (by kernel_rfl))
 f225:=Tryz.func201.trans (congrArg some (by kernel_rfl))
 f266:=Tryz.func153.trans (congrArg some (by kernel_rfl))
 f267:=Tryz.func203.trans (congrArg some (by kernel_rfl))
 f314:=Tryz.func249.trans (congrArg some (by kernel_rfl))
 t3:=Tryz.underlying3
 a3:=Tryz.isAgg3
 z3:=Tryz.sizeOf3
 v3:=Tryz.zeroValue3
 t4:=Tryz.underlying4
 a4:=Tryz.isAgg4
 z4:=Tryz.sizeOf4
 v4:=Tryz.zeroValue4
 t5:=Tryz.underlying5
 a5:=Tryz.isAgg5
 z5:=Tryz.sizeOf5
 v5:=Tryz.zeroValue5
 t9:=Tryz.underlying9
 a9:=Tryz.isAgg9
 z9:=Tryz.sizeOf9
 v9:=Tryz.zeroValue9
 t46:=Tryz.underlying233
 a46:=Tryz.isAgg233
 z46:=Tryz.sizeOf233
 v46:=Tryz.zeroValue233
 t51:=Tryz.underlying274
 a51:=Tryz.isAgg274
 z51:=Tryz.sizeOf274
 v51:=Tryz.zeroValue274
 t59:=Tryz.underlying161
 a59:=Tryz.isAgg161
 z59:=Tryz.sizeOf161
 v59:=Tryz.zeroValue161
 t146:=Tryz.underlying315
 a146:=Tryz.isAgg315
 z146:=Tryz.sizeOf315
 v146:=Tryz.zeroValue315
 g1:=by kernel_rfl }
open Go.RowKit Go.Lib in
theorem Tryz.strings_Cut (s sep:ByteArray) (m:Int) (w:World) (hs:s.size<4294967281) (hm:w.cell? ⟨1,0,none⟩=some (.int .i64 m)) :
 Calls Tryz.prog 82 #[.string s,.string sep] w fun e w'=>e=.returned (.tuple #[.string ⟨(Lib.cut s.data.toList sep.data.toList).1.toArray⟩,.string ⟨(Lib.cut s.data.toList sep.data.toList).2.1.toArray⟩,.bool (Lib.cut s.data.toList sep.data.toList).2.2])∧∃n,w'=w.drewN n:=Any.strings_Cut Tryz.lays145 s sep m w hs hm
def Tryz.lays138_ren:Go.Shelf.Ren:=⟨fun | 138=>260 | 195=>288 | 218=>289 | 143=>287 | 219=>154 | 217=>116 | 225=>201 | 224=>202 | 267=>203 | 266=>153 | 314=>249 | n=>n,fun | 9=>9 | 3=>3 | 4=>4 | 5=>5 | 0=>0 | 46=>233 | 146=>315 | 51=>274 | n=>n,fun | 1=>1 | n=>n⟩
theorem Tryz.lays138:Go.Proofs.Lays.n138 Tryz.prog Tryz.lays138_ren:={
 mixed:=by kernel_rfl
 f138:=Tryz.func260.trans (congrArg some (by kernel_rfl))
 f143:=Tryz.func287.trans (congrArg some (by kernel_rfl))
 f195:=Tryz.func288.trans (congrArg some (by kernel_rfl))
 f217:=Tryz.func116.trans (congrArg some (by kernel_rfl))
 f218:=Tryz.func289.trans (congrArg some (by kernel_rfl))
 f219:=Tryz.func154.trans (congrArg some (by kernel_rfl))
 f224:=Tryz.func202.trans (congrArg some (by kernel_rfl))
 f225:=Tryz.func201.trans (congrArg some (by kernel_rfl))
 f266:=Tryz.func153.trans (congrArg some (by kernel_rfl))
 f267:=Tryz.func203.trans (congrArg some (by kernel_rfl))
 f314:=Tryz.func249.trans (congrArg some (by kernel_rfl))
 t0:=Tryz.underlying0
 a0:=Tryz.isAgg0
 z0:=Tryz.sizeOf0
 v0:=Tryz.zeroValue0
 t3:=Tryz.underlying3
 a3:=Tryz.isAgg3
 z3:=Tryz.sizeOf3
 v3:=Tryz.zeroValue3
 t4:=Tryz.underlying4
 a4:=Tryz.isAgg4
 z4:=Tryz.sizeOf4
 v4:=Tryz.zeroValue4
 t5:=Tryz.underlying5
 a5:=Tryz.isAgg5
 z5:=Tryz.sizeOf5
 v5:=Tryz.zeroValue5
 t9:=Tryz.underlying9
 a9:=Tryz.isAgg9
 z9:=Tryz.sizeOf9
 v9:=Tryz.zeroValue9
 t46:=Tryz.underlying233
 a46:=Tryz.isAgg233
 z46:=Tryz.sizeOf233
 v46:=Tryz.zeroValue233
 t51:=Tryz.underlying274
 a51:=Tryz.isAgg274
 z51:=Tryz.sizeOf274
 v51:=Tryz.zeroValue274
 t146:=Tryz.underlying315
 a146:=Tryz.isAgg315
 z146:=Tryz.sizeOf315
 v146:=Tryz.zeroValue315
 g1:=by kernel_rfl }
open Go.RowKit Go.Lib in
theorem Tryz.strings_Count_one (s:ByteArray) (c:UInt8) (w:World) :
 Calls Tryz.prog 260 #[.string s,.string ⟨#[c]⟩] w fun e w'=>e=.returned (.int .i64 (Lib.countByte s.data.toList c))∧w'=w:=Any.strings_Count_one Tryz.lays138 s c w
def Tryz.lays99_ren:Go.Shelf.Ren:=⟨fun | 99=>81 | 206=>117 | n=>n,fun | 9=>9 | 4=>4 | 3=>3 | n=>n,fun | n=>n⟩
theorem Tryz.lays99:Go.Proofs.Lays.n99 Tryz.prog Tryz.lays99_ren:={
 mixed:=by kernel_rfl
 f99:=Tryz.func81.trans (congrArg some (by kernel_rfl))
 f206:=Tryz.func117.trans (congrArg some (by kernel_rfl))
 t3:=Tryz.underlying3
 a3:=Tryz.isAgg3
 z3:=Tryz.sizeOf3
 v3:=Tryz.zeroValue3
 t4:=Tryz.underlying4
 a4:=Tryz.isAgg4
 z4:=Tryz.sizeOf4
 v4:=Tryz.zeroValue4
 t9:=Tryz.underlying9
 a9:=Tryz.isAgg9
 z9:=Tryz.sizeOf9
 v9:=Tryz.zeroValue9 }
open Go.RowKit Go.Lib in
theorem Tryz.strings_HasPrefix (s p:ByteArray) (w:World) :
 Calls Tryz.prog 81 #[.string s,.string p] w fun e w'=>e=.returned (.bool (Lib.hasPrefix s.data.toList p.data.toList))∧w'=w:=Any.strings_HasPrefix Tryz.lays99 s p w
def Tryz.lays102_ren:Go.Shelf.Ren:=⟨fun | 102=>51 | 209=>95 | 207=>138 | n=>n,fun | 9=>9 | 4=>4 | 3=>3 | n=>n,fun | n=>n⟩
theorem Tryz.lays102:Go.Proofs.Lays.n102 Tryz.prog Tryz.lays102_ren:={
 mixed:=by kernel_rfl
 f102:=Tryz.func51.trans (congrArg some (by kernel_rfl))
 f207:=Tryz.func138.trans (congrArg some (by kernel_rfl))
 f209:=Tryz.func95.trans (congrArg some (by kernel_rfl))
 t3:=Tryz.underlying3
 a3:=Tryz.isAgg3
 z3:=Tryz.sizeOf3
 v3:=Tryz.zeroValue3
 t4:=Tryz.underlying4
 a4:=Tryz.isAgg4
 z4:=Tryz.sizeOf4
 v4:=Tryz.zeroValue4
 t9:=Tryz.underlying9
 a9:=Tryz.isAgg9
 z9:=Tryz.sizeOf9
 v9:=Tryz.zeroValue9 }
open Go.RowKit Go.Lib in
theorem Tryz.strings_TrimSuffix (s p:ByteArray) (w:World) (hs:s.size≤9223372036854775807) :
 Calls Tryz.prog 51 #[.string s,.string p] w fun e w'=>e=.returned (.string ⟨(Lib.trimSuffix s.data.toList p.data.toList).toArray⟩)∧w'=w:=Any.strings_TrimSuffix Tryz.lays102 s p w hs
def Tryz.lays147_ren:Go.Shelf.Ren:=⟨fun | 147=>222 | 221=>266 | 268=>293 | 138=>260 | 143=>287 | 195=>288 | 197=>302 | 218=>289 | 219=>154 | 260=>307 | 217=>116 | 225=>201 | 224=>202 | 267=>203 | 266=>153 | 314=>249 | n=>n,fun | 9=>9 | 3=>3 | 31=>29 | 4=>4 | 0=>0 | 105=>354 | 21=>21 | 5=>5 | 46=>233 | 119=>364 | 139=>367 | 138=>366 | 146=>315 | 51=>274 | n=>n,fun | 1=>1 | 3=>6 | 4=>7 | n=>n⟩
theorem Tryz.lays147:Go.Proofs.Lays.n147 Tryz.prog Tryz.lays147_ren:={
 mixed:=by kernel_rfl
 f138:=Tryz.func260.trans (congrArg some (by kernel_rfl))
 f143:=Tryz.func287.trans (congrArg some (by kernel_rfl))
 f147:=Tryz.func222.trans (congrArg some (by kernel_rfl))
 f195:=Tryz.func288.trans (congrArg some (by kernel_rfl))
 f197:=Tryz.func302.trans (congrArg some (by kernel_rfl))
 f217:=Tryz.func116.trans (congrArg some (by kernel_rfl))
 f218:=Tryz.func289.trans (congrArg some (by kernel_rfl))
 f219:=Tryz.func154.trans (congrArg some (by kernel_rfl))
 f221:=Tryz.func266.trans (congrArg some (by kernel_rfl))
 f224:=Tryz.func202.trans (congrArg some (by kernel_rfl))
 f225:=Tryz.func201.trans (congrArg some (by kernel_rfl))
 f260:=Tryz.func307.trans (congrArg some (by kernel_rfl))
 f266:=Tryz.func153.trans (congrArg some (by kernel_rfl))
 f267:=Tryz.func203.trans (congrArg some (by kernel_rfl))
 f268:=Tryz.func293.trans (congrArg some (by kernel_rfl))
 f314:=Tryz.func249.trans (congrArg some (by kernel_rfl))
 t0:=Tryz.underlying0
 a0:=Tryz.isAgg0
 z0:=Tryz.sizeOf0
 v0:=Tryz.zeroValue0
 t3:=Tryz.underlying3
 a3:=Tryz.isAgg3
 z3:=Tryz.sizeOf3
 v3:=Tryz.zeroValue3
 t4:=Tryz.underlying4
 a4:=Tryz.isAgg4
 z4:=Tryz.sizeOf4
 v4:=Tryz.zeroValue4
 t5:=Tryz.underlying5
 a5:=Tryz.isAgg5
 z5:=Tryz.sizeOf5
 v5:=Tryz.zeroValue5
 t9:=Tryz.underlying9
 a9:=Tryz.isAgg9
 z9:=Tryz.sizeOf9
 v9:=Tryz.zeroValue9
 t21:=Tryz.underlying21
 a21:=Tryz.isAgg21
 z21:=Tryz.sizeOf21
 v21:=Tryz.zeroValue21
 t31:=Tryz.underlying29
 a31:=Tryz.isAgg29
 z31:=Tryz.sizeOf29
 v31:=Tryz.zeroValue29
 t46:=Tryz.underlying233
 a46:=Tryz.isAgg233
 z46:=Tryz.sizeOf233
 v46:=Tryz.zeroValue233
 t51:=Tryz.underlying274
 a51:=Tryz.isAgg274
 z51:=Tryz.sizeOf274
 v51:=Tryz.zeroValue274
 t105:=Tryz.underlying354
 a105:=Tryz.isAgg354
 z105:=Tryz.sizeOf354
 v105:=Tryz.zeroValue354
 t119:=Tryz.underlying364
 a119:=Tryz.isAgg364
 z119:=Tryz.sizeOf364
 t138:=Tryz.underlying366
 a138:=Tryz.isAgg366
 z138:=Tryz.sizeOf366
 v138:=Tryz.zeroValue366
 t139:=Tryz.underlying367
 a139:=Tryz.isAgg367
 z139:=Tryz.sizeOf367
 v139:=Tryz.zeroValue367
 t146:=Tryz.underlying315
 a146:=Tryz.isAgg315
 z146:=Tryz.sizeOf315
 v146:=Tryz.zeroValue315
 g1:=by kernel_rfl
 g3:=by kernel_rfl
 g4:=by kernel_rfl }
open Go.RowKit Go.Lib in
theorem Tryz.strings_SplitN (s sep:ByteArray) (n:Nat) (m:Int) (w:World) (hs:s.size<4294967281) (hm:w.cell? ⟨1,0,none⟩=some (.int .i64 m)) (h1:1≤sep.size) (hn:1≤n) (hn63:n≤9223372036854775807) :
 Calls Tryz.prog 222 #[.string s,.string sep,.int .i64 n] w fun e w' =>
  e=.returned (.slice (some ⟨w.heap.size,0,none⟩) (Lib.splitB sep 0 (min n (s.size+1)-1) s).length (min n (s.size+1)))∧w'=w.alloc (.cells (Lib.cellsOf (Lib.splitB sep 0 (min n (s.size+1)-1) s) (min n (s.size+1))) 9):=Any.strings_SplitN Tryz.lays147 (by kernel_rfl) s sep n m w hs hm h1 hn hn63
end Go.Proofs
namespace Go.Proofs.YthmddloeggdohaaGreatDoor.Vec
open Go.RowKit
def qS (v x:Int) (w:World) (e:Ending) (w':World):Prop:=e=.returned (.tuple #[.int .i64 v,.int .i64 x])∧w=w'
def Ans (v x:Int) (w:World) (e:Ending) (w':World):Prop:=e=.returned (.tuple #[.int .i64 v,.int .i64 x])∧Kept w w'
theorem qS.ans {v x:Int} {w:World} {e:Ending} {w':World} (h:qS v x w e w'):Ans v x w e w':=by
 obtain⟨rfl,rfl⟩:=h;exact⟨rfl,Kept.refl _⟩
theorem jlK (a b:Int) (w:World) (ha:0≤a) (hb:0≤b) (hb':b≤9223372036854775807) (h:9223372036854775807<a+b):Calls Tryz.prog 246 #[.int .i64 a,.int .i64 b] w (qS 0 5 w):=by
 go_enter Tryz.func246,Tryz.ntmps246;go_wp2;go_ret2
 exact⟨rfl,rfl⟩
theorem jof (a b:Int) (w:World) (ha:0≤a) (hb:0≤b) (h:a+b≤9223372036854775807):Calls Tryz.prog 246 #[.int .i64 a,.int .i64 b] w (qS (a+b) 0 w):=by
 go_enter Tryz.func246,Tryz.ntmps246;go_wp2;go_ret2
 exact⟨rfl,rfl⟩
abbrev V:=List (ByteArray×Int)
def nm (l:V) (i:Nat):ByteArray:=(l.getD i (ByteArray.empty,0)).1
def qn (l:V) (i:Nat):Int:=(l.getD i (ByteArray.empty,0)).2
def zp (l:V):Prop:=∀i,i<l.length→(nm l i).size≤maxLen∧-9223372036854775808≤qn l i∧qn l i≤9223372036854775807
def jt (w:World) (a:Option Addr) (len:Nat) (l:V):Prop :=
 l.length=len∧len≤maxLen∧zp l ∧
  (len=0∨∃b off,a=some ⟨b,off,none⟩∧b<w.heap.size ∧
    ∀i,i<len→w.cell? ⟨b,off+i*2,none⟩=some (.string (nm l i))∧w.cell? ⟨b,off+i*2+1,none⟩=some (.int .i64 (qn l i)))
theorem jt.kept {w w':World} {a:Option Addr} {len:Nat} {l:V} (h:jt w a len l) (k:Kept w w'):jt w' a len l:=by
 obtain⟨h0,h1,h2,h3⟩:=h;refine⟨h0,h1,h2,h3.imp id ?_⟩;rintro ⟨b,off,ha,hb,hc⟩;exact⟨b,off,ha,Nat.lt_of_lt_of_le hb k.size,fun i hi =>
  ⟨(Below.cell k (p:=⟨b,off+i*2,none⟩) hb).trans (hc i hi).1,(Below.cell k (p:=⟨b,off+i*2+1,none⟩) hb).trans (hc i hi).2⟩⟩
theorem jt.nil (w:World):jt w none 0 []:=⟨rfl,by decide,fun i hi=>absurd hi (by simp),.inl rfl⟩
theorem drop_cons {l:V} {k:Nat} (h:k<l.length):l.drop k=(nm l k,qn l k)::l.drop (k+1):=by
 rw[List.drop_eq_getElem_cons h];have:l.getD k (ByteArray.empty,0)=l[k]:=by simp[List.getD,h]
 simp only[nm,qn,this]
theorem jt.cells {w:World} {b off len:Nat} {l:V} {k:Nat} (h:jt w (some ⟨b,off,none⟩) len l) (hk:k<len) :
 b<w.heap.size∧w.cell? ⟨b,off+k*2,none⟩=some (.string (nm l k))∧w.cell? ⟨b,off+k*2+1,none⟩=some (.int .i64 (qn l k)):=by
 obtain⟨_,_,_,h3⟩:=h;rcases h3 with h3 | ⟨b',off',e,hb,hc⟩
 · omega
 · injection e with e;injection e with e1 e2 e3;subst e1;subst e2;exact⟨hb,hc k hk⟩
theorem jt.form {w:World} {a:Option Addr} {len:Nat} {l:V} (h:jt w a len l):len=0∨∃b off,a=some ⟨b,off,none⟩:=by
 obtain⟨_,_,_,h3⟩:=h;exact h3.imp id fun ⟨b,off,e,_⟩=>⟨b,off,e⟩
def Xy (l:V) (k:Nat):Option ByteArray:=if k=0 then none else some (nm l (k-1))
def jI (prev:Option ByteArray) (s:ByteArray):Bool:=match prev with | none=>false | some p=>leS s p
def jG:Option ByteArray→V→Int
 | _,[]=>0
 | prev,x::t=>if isName x.1=false then 3 else if x.2≤0 then 1 else if jI prev x.1=true then 13 else jG (some x.1) t
def jm (l:V):Int:=if 8<l.length then 4 else jG none l
theorem YT {l:V} {k:Nat} (h:k=0) (s:ByteArray):jI (Xy l k) s=false:=by unfold Xy;rw[if_pos h];rfl
theorem YU {l:V} {k:Nat} (h:¬k=0) (s:ByteArray):jI (Xy l k) s=leS s (nm l (k-1)):=by unfold Xy;rw[if_neg h];rfl
theorem Xi (l:V) (k:Nat):Xy l (k+1)=some (nm l k):=by unfold Xy;rw[if_neg (by omega)];rfl
theorem Y2 {l:V} {k:Nat} {p:Option ByteArray} (h:k<l.length) (n1:isName (nm l k)=false):jG p (l.drop k)=3:=by
 rw[drop_cons h,jG,if_pos n1]
theorem jis {l:V} {k:Nat} {p:Option ByteArray} (h:k<l.length) (n1:isName (nm l k)=true) (n2:qn l k≤0):jG p (l.drop k)=1:=by
 rw[drop_cons h,jG,if_neg (by rw[n1];decide),if_pos n2]
theorem XZ {l:V} {k:Nat} {p:Option ByteArray} (h:k<l.length) (n1:isName (nm l k)=true) (n2:0<qn l k) (n3:jI p (nm l k)=true):jG p (l.drop k)=13:=by
 rw[drop_cons h,jG,if_neg (by rw[n1];decide),if_neg (by omega),if_pos n3]
theorem Yh {l:V} {k:Nat} {p:Option ByteArray} (h:k<l.length) (n1:isName (nm l k)=true) (n2:0<qn l k) (n3:jI p (nm l k)=false):jG p (l.drop k)=jG (Xy l (k+1)) (l.drop (k+1)):=by
 rw[drop_cons h,jG,if_neg (by rw[n1];decide),if_neg (by omega),if_neg (by rw[n3];decide),Xi]
theorem jiw {l:V} {k:Nat} {p:Option ByteArray} (h:¬k<l.length):jG p (l.drop k)=0:=by
 rw[List.drop_of_length_le (by omega),jG]
theorem Xq (a:Option Addr) (len cap:Nat) (l:V) (w:World) (hr:jt w a len l) :
 Calls Tryz.prog 99 #[.slice a len cap] w fun e w'=>e=.returned (.int .i64 (jm l))∧Kept w w':=by
 have hl:=hr.1;have hm:=hr.2.1;unfold maxLen at hm;have hf:=hr.2.2.1;by_cases h8:len≤8
 · have HV:=lH (show jm l=jG none l by unfold jm;rw[if_neg (by omega)]);rcases hr.form with h0 | ⟨b,off,rfl⟩
   · subst h0;have HE:=lH (show jm l=0 by rw[HV.out];rw[List.eq_nil_of_length_eq_zero hl];rfl);clear hr hl hf;go_enter Tryz.func99,Tryz.ntmps99;go_wp2;refine wp_loop_rounds 1 ?_;rw[rounds_succ];go_wp2;go_ret;exact⟨jb HE.out.symm,Kept.refl _⟩
   · have HF:=lH hf;have HR:=lH hr;have HL:=lH hl;clear hf hr hl;go_enter Tryz.func99,Tryz.ntmps99;go_wp2;go_loopw [3] (fun i wr=>∃k:Nat,k≤len∧i=.int .i64 k∧jG (Xy l k) (l.drop k)=jG none l∧Kept w wr) (fun i _=>len-(intOf i).toNat)
     case atStart=>exact⟨0,Nat.zero_le _,rfl,rfl,Kept.refl _⟩
     case round =>
      obtain⟨k,hk,rfl,hrest,hK⟩:=hrel;by_cases hlt:k<len
      · have HK:=lH hK;have HS:=lH (HV.out.trans hrest.symm);have HT:=lH hrest;obtain⟨hb,c1,c2⟩:=(HR.out.kept hK).cells hlt;clear hK hrest;have hz:(nm l k).size≤maxLen:=(HF.out k (by rw[HL.out];exact hlt)).1;have HI:=lH (show k<l.length by rw[HL.out];exact hlt);by_cases n1:isName (nm l k)=true
        · have N1:=lH n1;by_cases n2:qn l k≤0
          · have N2:=lH n2;go_wp2_with (go_at_call 98;refine(jo _ _ hz).mono ?_;rintro e w' ⟨rfl,rfl⟩)
            go_ret;exact⟨jb (HS.out.trans (jis HI.out N1.out N2.out)).symm,HK.out⟩
          · have n2:0<qn l k:=by omega
            have N2:=lH n2;by_cases h0:k=0
            · have hd:decide (0<k)=false:=by subst h0;decide
              have HP:=lH (YT (l:=l) h0 (nm l k));clear h0;go_wp2_with (go_at_call 98;refine(jo _ _ hz).mono ?_;rintro e w' ⟨rfl,rfl⟩)
              go_quiet (fail)
              go_wp2;go_roundw
              case rel=>exact⟨k+1,by omega,by go_num,(Yh HI.out N1.out N2.out HP.out).symm.trans HT.out,HK.out.trans (Kept.drewN _ _)⟩
              case measure=>simp[intOf];omega
            · have hd:decide (0<k)=true:=by simp;omega
              have g1:0≤(k:Int)-1:=by omega
              have g2:(k:Int)-1<(len:Int):=by omega
              have g3:((k:Int)-1).toNat=k-1:=by omega
              have HP:=lH (YU (l:=l) h0 (nm l k));obtain⟨_,d1,d2⟩:=(HR.out.kept HK.out).cells (show k-1<len by omega);by_cases n3:leS (nm l k) (nm l (k-1))=true
              · have n3':(Op.bytesLess (nm l k).toList (nm l (k-1)).toList||(nm l k).toList==(nm l (k-1)).toList)=true:=n3;have N3:=lH n3;clear n3;go_wp2_with (go_at_call 98;refine(jo _ _ hz).mono ?_;rintro e w' ⟨rfl,rfl⟩)
                go_quiet (fail)
                go_wp2;go_ret;exact⟨jb (HS.out.trans (XZ HI.out N1.out N2.out (HP.out.trans N3.out))).symm,HK.out.trans (Kept.drewN _ _)⟩
              · have n3:leS (nm l k) (nm l (k-1))=false:=by simpa using n3
                have n3':(Op.bytesLess (nm l k).toList (nm l (k-1)).toList||(nm l k).toList==(nm l (k-1)).toList)=false:=n3;have N3:=lH n3;clear n3;go_wp2_with (go_at_call 98;refine(jo _ _ hz).mono ?_;rintro e w' ⟨rfl,rfl⟩)
                go_quiet (fail)
                go_wp2;go_roundw
                case rel=>exact⟨k+1,by omega,by go_num,(Yh HI.out N1.out N2.out (HP.out.trans N3.out)).symm.trans HT.out,HK.out.trans (Kept.drewN _ _)⟩
                case measure=>simp[intOf];omega
        · have n1:isName (nm l k)=false:=by simpa using n1
          have N1:=lH n1;go_wp2_with (go_at_call 98;refine(jo _ _ hz).mono ?_;rintro e w' ⟨rfl,rfl⟩)
          go_ret;exact⟨jb (HS.out.trans (Y2 HI.out N1.out)).symm,HK.out⟩
      · have HK:=lH hK;have HS:=lH (HV.out.trans hrest.symm);have HI:=lH (show ¬k<l.length by rw[HL.out];exact hlt);clear hK hrest;go_wp2;go_ret;exact⟨jb (HS.out.trans (jiw HI.out)).symm,HK.out⟩
 · have HV:=lH (show jm l=4 by unfold jm;rw[if_pos (by omega)]);have h9:8<len:=by omega
   clear h8 hr hl hf;go_enter Tryz.func99,Tryz.ntmps99;go_wp2;go_ret;exact⟨jb HV.out.symm,Kept.refl _⟩
theorem jea (a:Option Addr) (len cap:Nat) (w:World) (h:len≤8) :
 Calls Tryz.prog 285 #[.slice a len cap] w fun e w'=>e=.returned (.tuple #[])∧w=w':=by
 go_enter Tryz.func285,Tryz.ntmps285;go_wp2;go_end0
 exact⟨rfl,rfl⟩
theorem jfA (a:Option Addr) (len cap:Nat) (w:World) (h:8<len) (hm:len≤9223372036854775807) :
 Calls Tryz.prog 285 #[.slice a len cap] w fun e w'=>e=.panicked [ju 4]∧w=w':=by
 go_enter Tryz.func285,Tryz.ntmps285;go_wp2;exact⟨rfl,rfl,rfl⟩
def Chk (l:V) (v:Value) (w:World) (e:Ending) (w':World):Prop :=
 (jm l=0→e=.returned v)∧(jm l≠0→e=.panicked [ju (jm l)])∧Kept w w'
theorem Chk.good {l:V} {v:Value} {w w':World} (h:jm l=0) (k:Kept w w'):Chk l v w (.returned v) w':=⟨fun _=>rfl,fun g=>absurd h g,k⟩
theorem Chk.bad {l:V} {v:Value} {w w':World} {c:Int} (h:jm l=c) (hc:c≠0) (k:Kept w w'):Chk l v w (.panicked [ju c]) w':=⟨fun g=>absurd (h.symm.trans g) hc,fun _=>by rw[h],k⟩
theorem Zo (a:Option Addr) (len cap:Nat) (l:V) (w:World) (hr:jt w a len l) :
 Calls Tryz.prog 256 #[.slice a len cap] w (Chk l (.slice a len cap) w):=by
 have hl:=hr.1;have hm:=hr.2.1;unfold maxLen at hm;have hm':len≤9223372036854775807:=by omega
 have hf:=hr.2.2.1;by_cases h8:len≤8
 · have HV:=lH (show jm l=jG none l by unfold jm;rw[if_neg (by omega)]);rcases hr.form with h0 | ⟨b,off,rfl⟩
   · subst h0;have HE:=lH (show jm l=0 by rw[HV.out];rw[List.eq_nil_of_length_eq_zero hl];rfl);clear hr hl hf;go_enter Tryz.func256,Tryz.ntmps256;go_wp2_with (go_at_call 285;refine(jea _ _ _ _ (by omega)).mono ?_;rintro e w' ⟨rfl,rfl⟩)
     refine wp_loop_rounds 1 ?_;rw[rounds_succ];go_wp2;go_ret;exact Chk.good HE.out (Kept.refl _)
   · have HF:=lH hf;have HR:=lH hr;have HL:=lH hl;clear hf hr hl;go_enter Tryz.func256,Tryz.ntmps256;go_wp2_with (go_at_call 285;refine(jea _ _ _ _ h8).mono ?_;rintro e w' ⟨rfl,rfl⟩)
     go_loopw [9] (fun i wr=>∃k:Nat,k≤len∧i=.int .i64 k∧jG (Xy l k) (l.drop k)=jG none l∧Kept w wr) (fun i _=>len-(intOf i).toNat)
     case atStart=>exact⟨0,Nat.zero_le _,rfl,rfl,Kept.refl _⟩
     case round =>
      obtain⟨k,hk,rfl,hrest,hK⟩:=hrel;by_cases hlt:k<len
      · have HK:=lH hK;have HS:=lH (HV.out.trans hrest.symm);have HT:=lH hrest;obtain⟨hb,c1,c2⟩:=(HR.out.kept hK).cells hlt;clear hK hrest;have hz:(nm l k).size≤maxLen:=(HF.out k (by rw[HL.out];exact hlt)).1;have HI:=lH (show k<l.length by rw[HL.out];exact hlt);by_cases n1:isName (nm l k)=true
        · have N1:=lH n1;by_cases n2:qn l k≤0
          · have N2:=lH n2;go_wp2_with (go_at_call 219;refine(zk _ _ hz).mono ?_;rintro e w' ⟨rfl,rfl⟩)
            exact⟨rfl,Chk.bad (HS.out.trans (jis HI.out N1.out N2.out)) (by decide) (HK.out.trans (ja _ _))⟩
          · have n2:0<qn l k:=by omega
            have N2:=lH n2;by_cases h0:k=0
            · have hd:decide (0<k)=false:=by subst h0;decide
              have HP:=lH (YT (l:=l) h0 (nm l k));clear h0;go_wp2_with (go_at_call 219;refine(zk _ _ hz).mono ?_;rintro e w' ⟨rfl,rfl⟩)
              go_quiet (fail)
              go_wp2;go_roundw
              case rel=>exact⟨k+1,by omega,by go_num,(Yh HI.out N1.out N2.out HP.out).symm.trans HT.out,(HK.out.trans (Zb _ _ _))⟩
              case measure=>simp[intOf];omega
            · have hd:decide (0<k)=true:=by simp;omega
              have g1:0≤(k:Int)-1:=by omega
              have g2:(k:Int)-1<(len:Int):=by omega
              have g3:((k:Int)-1).toNat=k-1:=by omega
              have HP:=lH (YU (l:=l) h0 (nm l k));obtain⟨_,d1,d2⟩:=(HR.out.kept HK.out).cells (show k-1<len by omega);by_cases n3:leS (nm l k) (nm l (k-1))=true
              · have n3':(Op.bytesLess (nm l k).toList (nm l (k-1)).toList||(nm l k).toList==(nm l (k-1)).toList)=true:=n3;have N3:=lH n3;clear n3;go_wp2_with (go_at_call 219;refine(zk _ _ hz).mono ?_;rintro e w' ⟨rfl,rfl⟩)
                go_quiet (fail)
                go_wp2;exact⟨rfl,Chk.bad (HS.out.trans (XZ HI.out N1.out N2.out (HP.out.trans N3.out))) (by decide) (HK.out.trans (Zb _ _ _))⟩
              · have n3:leS (nm l k) (nm l (k-1))=false:=by simpa using n3
                have n3':(Op.bytesLess (nm l k).toList (nm l (k-1)).toList||(nm l k).toList==(nm l (k-1)).toList)=false:=n3;have N3:=lH n3;clear n3;go_wp2_with (go_at_call 219;refine(zk _ _ hz).mono ?_;rintro e w' ⟨rfl,rfl⟩)
                go_quiet (fail)
                go_wp2;go_roundw
                case rel=>exact⟨k+1,by omega,by go_num,(Yh HI.out N1.out N2.out (HP.out.trans N3.out)).symm.trans HT.out,(HK.out.trans (Zb _ _ _))⟩
                case measure=>simp[intOf];omega
        · have n1:isName (nm l k)=false:=by simpa using n1
          have N1:=lH n1;go_wp2_with (go_at_call 219;refine(zk _ _ hz).mono ?_;rintro e w' ⟨rfl,rfl⟩)
          exact⟨rfl,Chk.bad (HS.out.trans (Y2 HI.out N1.out)) (by decide) (HK.out.trans (ja _ _))⟩
      · have HK:=lH hK;have HS:=lH (HV.out.trans hrest.symm);have HI:=lH (show ¬k<l.length by rw[HL.out];exact hlt);clear hK hrest;go_wp2;go_ret;exact Chk.good (HS.out.trans (jiw HI.out)) HK.out
 · have HV:=lH (show jm l=4 by unfold jm;rw[if_pos (by omega)]);have h9:8<len:=by omega
   clear h8 hr hl hf hm;go_enter Tryz.func256,Tryz.ntmps256;go_wp2_with (go_at_call 285;refine(jfA _ _ _ _ h9 hm').mono ?_;rintro e w' ⟨rfl,rfl⟩)
   exact⟨rfl,Chk.bad HV.out (by decide) (Kept.refl _)⟩
def jN:V→ByteArray→Int
 | [],_=>0
 | x::t,n=>if eqS x.1 n=true then x.2 else jN t n
theorem jgs {l:V} {k:Nat} {n:ByteArray} (h:k<l.length) (e:eqS (nm l k) n=true):jN (l.drop k) n=qn l k:=by rw[drop_cons h,jN,if_pos e]
theorem jgD {l:V} {k:Nat} {n:ByteArray} (h:k<l.length) (e:eqS (nm l k) n=false):jN (l.drop k) n=jN (l.drop (k+1)) n:=by rw[drop_cons h,jN,if_neg (by rw[e];decide)]
theorem jil {l:V} {k:Nat} {n:ByteArray} (h:¬k<l.length):jN (l.drop k) n=0:=by rw[List.drop_of_length_le (by omega),jN]
theorem jia (a:Option Addr) (len cap:Nat) (l:V) (n:ByteArray) (w:World) (hr:jt w a len l) :
 Calls Tryz.prog 193 #[.slice a len cap,.string n] w fun e w'=>e=.returned (.int .i64 (jN l n))∧Kept w w':=by
 have hl:=hr.1;have hm:=hr.2.1;unfold maxLen at hm;rcases hr.form with h0 | ⟨b,off,rfl⟩
 · subst h0;have HE:=lH (show jN l n=0 by rw[List.eq_nil_of_length_eq_zero hl];rfl);clear hr hl;go_enter Tryz.func193,Tryz.ntmps193;go_wp2;refine wp_loop_rounds 1 ?_;rw[rounds_succ];go_wp2;go_ret;exact⟨jb HE.out.symm,Kept.refl _⟩
 · have HR:=lH hr;have HL:=lH hl;clear hr hl;go_enter Tryz.func193,Tryz.ntmps193;go_wp2;go_loopw [9] (fun i wr=>∃k:Nat,k≤len∧i=.int .i64 k∧jN (l.drop k) n=jN l n∧Kept w wr) (fun i _=>len-(intOf i).toNat)
   case atStart=>exact⟨0,Nat.zero_le _,rfl,rfl,Kept.refl _⟩
   case round =>
    obtain⟨k,hk,rfl,hrest,hK⟩:=hrel;have HK:=lH hK;have HS:=lH hrest;by_cases hlt:k<len
    · obtain⟨hb,c1,c2⟩:=(HR.out.kept hK).cells hlt;clear hK hrest;have HI:=lH (show k<l.length by rw[HL.out];exact hlt);by_cases e:eqS (nm l k) n=true
      · have E:=lH e;have e':((nm l k).toList==n.toList)=true:=e;clear e;go_wp2;go_ret;exact⟨jb (HS.out.symm.trans (jgs HI.out E.out)).symm,HK.out.trans (ja _ _)⟩
      · have e:eqS (nm l k) n=false:=by simpa using e
        have E:=lH e;have e':((nm l k).toList==n.toList)=false:=e;clear e;go_wp2;go_roundw
        case rel=>exact⟨k+1,by omega,by go_num,(jgD HI.out E.out).symm.trans HS.out,HK.out.trans (ja _ _)⟩
        case measure=>simp[intOf];omega
    · have HI:=lH (show ¬k<l.length by rw[HL.out];exact hlt);clear hK hrest;go_wp2;go_ret;exact⟨jb (HS.out.symm.trans (jil HI.out)).symm,HK.out⟩
def JV:V→Bool
 | []=>true
 | x::t=>decide (x.1.size≤50)&&JV t
def Zv (l:V):Bool:=decide (l.length≤20)&&JV l
theorem jeg (a:Option Addr) (len cap:Nat) (l:V) (w:World) (hr:jt w a len l) :
 Calls Tryz.prog 55 #[.slice a len cap] w fun e w'=>e=.returned (.bool (Zv l))∧w=w':=by
 have hl:=hr.1;have hm:=hr.2.1;have hf:=hr.2.2.1;unfold maxLen at hm;by_cases h20:len≤20
 · have HV:=lH (show Zv l=JV l by unfold Zv;rw[decide_eq_true (by omega)];rfl);rcases hr.form with h0 | ⟨b,off,rfl⟩
   · subst h0;have HE:=lH (show Zv l=true by rw[HV.out,List.eq_nil_of_length_eq_zero hl];rfl);clear hr hl hf;go_enter Tryz.func55,Tryz.ntmps55;go_wp2;refine wp_loop_rounds 1 ?_;rw[rounds_succ];go_wp2;go_ret;exact⟨jh HE.out.symm,rfl⟩
   · have HR:=lH hr;have HL:=lH hl;have HF:=lH hf;clear hr hl hf;go_enter Tryz.func55,Tryz.ntmps55;go_wp2;go_loop [3] (fun i=>∃k:Nat,k≤len∧i=.int .i64 k∧JV (l.drop k)=JV l) (fun i=>len-(intOf i).toNat)
     case atStart=>exact⟨0,Nat.zero_le _,rfl,rfl⟩
     case round =>
      obtain⟨k,hk,rfl,hrest⟩:=hrel;have HS:=lH hrest;clear hrest;by_cases hlt:k<len
      · obtain⟨hb,c1,c2⟩:=HR.out.cells hlt;have HI:=lH (show k<l.length by rw[HL.out];exact hlt);have hz:=(HF.out k HI.out).1;unfold maxLen at hz;by_cases e:(nm l k).size≤50
        · have E:=lH (show JV (l.drop k)=JV (l.drop (k+1)) by rw[drop_cons HI.out,JV,decide_eq_true e];rfl);go_wp2;go_round
          case rel=>exact⟨k+1,by omega,by go_num,E.out.symm.trans HS.out⟩
          case measure=>simp[intOf];omega
        · have E:=lH (show JV (l.drop k)=false by rw[drop_cons HI.out,JV,decide_eq_false e];rfl);have e':50<(nm l k).size:=by omega
          clear e;go_wp2;go_ret;exact⟨jh (HV.out.trans (HS.out.symm.trans E.out)).symm,rfl⟩
      · have HI:=lH (show JV (l.drop k)=true by rw[List.drop_of_length_le (by rw[HL.out];omega),JV]);go_wp2;go_ret;exact⟨jh (HV.out.trans (HS.out.symm.trans HI.out)).symm,rfl⟩
 · have HV:=lH (show Zv l=false by unfold Zv;rw[decide_eq_false (by omega)];rfl);have h9:20<len:=by omega
   clear h20 hr hl hf;go_enter Tryz.func55,Tryz.ntmps55;go_wp2;go_ret;exact⟨jh HV.out.symm,rfl⟩
theorem Z7 {w W:World} {p q:Prop} (h:p∧q∧Kept w W):Kept w W:=h.2.2
theorem qM {w W W':World} {a b:Addr} {x y:Value} (h:W.cell? a=some x∧W.cell? b=some y∧Kept w W) (k:Kept W W'):W'.cell? a=some x∧W'.cell? b=some y∧Kept w W' :=
 ⟨cell_later k h.1,cell_later k h.2.1,h.2.2.trans k⟩
def jP (have_:V):V→Bool
 | []=>true
 | x::t=>decide (x.2≤jN have_ x.1)&&jP have_ t
theorem jmn (a a':Option Addr) (len cap len' cap':Nat) (l l':V) (w:World) (hr:jt w a len l) (hr':jt w a' len' l') :
 Calls Tryz.prog 145 #[.slice a len cap,.slice a' len' cap'] w fun e w'=>e=.returned (.bool (jP l' l))∧Kept w w':=by
 have hl:=hr.1;have hm:=hr.2.1;unfold maxLen at hm;rcases hr.form with h0 | ⟨b,off,rfl⟩
 · subst h0;have HE:=lH (show jP l' l=true by rw[List.eq_nil_of_length_eq_zero hl];rfl);clear hr hl hr';go_enter Tryz.func145,Tryz.ntmps145;go_wp2;refine wp_loop_rounds 1 ?_;rw[rounds_succ];go_wp2;go_ret;exact⟨jh HE.out.symm,Kept.refl _⟩
 · have HR:=lH hr;have HL:=lH hl;have HR':=lH hr';clear hr hl hr';go_enter Tryz.func145,Tryz.ntmps145;go_wp2;go_loopw [9] (fun i wr=>∃k:Nat,k≤len∧i=.int .i64 k∧jP l' (l.drop k)=jP l' l∧Kept w wr) (fun i _=>len-(intOf i).toNat)
   case atStart=>exact⟨0,Nat.zero_le _,rfl,rfl,Kept.refl _⟩
   case round =>
    obtain⟨k,hk,rfl,hrest,hK⟩:=hrel;have HS:=lH hrest;have HK:=lH hK;by_cases hlt:k<len
    · obtain⟨hb,c1,c2⟩:=(HR.out.kept hK).cells hlt;clear hrest hK;have HI:=lH (show k<l.length by rw[HL.out];exact hlt);by_cases e:qn l k≤jN l' (nm l k)
      · have E:=lH (show jP l' (l.drop k)=jP l' (l.drop (k+1)) by rw[drop_cons HI.out,jP,decide_eq_true e];rfl);go_wp2;have f1:((wr.alloc (.cells #[.string (nm l k),.int .i64 (qn l k)] 140)).drew).cell? ⟨wr.heap.size,0,none⟩=some (.string (nm l k)):=by go_simp
        have f2:((wr.alloc (.cells #[.string (nm l k),.int .i64 (qn l k)] 140)).drew).cell? ⟨wr.heap.size,1,none⟩=some (.int .i64 (qn l k)):=by go_simp
        have f3:Kept w ((wr.alloc (.cells #[.string (nm l k),.int .i64 (qn l k)] 140)).drew):=(HK.out.trans (ja _ _)).trans (Kept.drewN _ 1);go_region_held3 (fun W=>W.cell? ⟨wr.heap.size,0,none⟩=some (.string (nm l k))∧W.cell? ⟨wr.heap.size,1,none⟩=some (.int .i64 (qn l k))∧Kept w W) (first | exact⟨f1,f2,f3⟩ | assumption | exact qM (by assumption) (by assumption))
         (first | (go_at_call 193;refine(jia _ _ _ l' _ _ (HR'.out.kept (Z7 (by assumption)))).mono ?_;rintro e W2 ⟨rfl,hk2⟩))
        all_goals
         go_wp2;go_roundw
         case rel=>exact⟨k+1,by omega,by go_num,E.out.symm.trans HS.out,Z7 (by assumption)⟩
         case measure=>simp[intOf];omega
      · have E:=lH (show jP l' (l.drop k)=false by rw[drop_cons HI.out,jP,decide_eq_false e];rfl);have e':jN l' (nm l k)<qn l k:=by omega
        clear e;go_wp2;have f1:((wr.alloc (.cells #[.string (nm l k),.int .i64 (qn l k)] 140)).drew).cell? ⟨wr.heap.size,0,none⟩=some (.string (nm l k)):=by go_simp
        have f2:((wr.alloc (.cells #[.string (nm l k),.int .i64 (qn l k)] 140)).drew).cell? ⟨wr.heap.size,1,none⟩=some (.int .i64 (qn l k)):=by go_simp
        have f3:Kept w ((wr.alloc (.cells #[.string (nm l k),.int .i64 (qn l k)] 140)).drew):=(HK.out.trans (ja _ _)).trans (Kept.drewN _ 1);go_region_held3 (fun W=>W.cell? ⟨wr.heap.size,0,none⟩=some (.string (nm l k))∧W.cell? ⟨wr.heap.size,1,none⟩=some (.int .i64 (qn l k))∧Kept w W) (first | exact⟨f1,f2,f3⟩ | assumption | exact qM (by assumption) (by assumption))
         (first | (go_at_call 193;refine(jia _ _ _ l' _ _ (HR'.out.kept (Z7 (by assumption)))).mono ?_;rintro e W2 ⟨rfl,hk2⟩))
        all_goals
         go_wp2;go_ret;exact⟨jh (HS.out.symm.trans E.out).symm,Z7 (by assumption)⟩
    · have E:=lH (show jP l' (l.drop k)=true by rw[List.drop_of_length_le (by rw[HL.out];omega),jP]);clear hrest hK;go_wp2;go_ret;exact⟨jh (HS.out.symm.trans E.out).symm,HK.out⟩
def cellsOf:V→List Value
 | []=>[]
 | x::t=>.string x.1::.int .i64 x.2::cellsOf t
theorem XF:∀l:V,(cellsOf l).length=l.length*2
 | []=>rfl
 | x::t=>by simp only[cellsOf,List.length_cons,XF t];omega
theorem ZV:∀l m:V,cellsOf (l++m)=cellsOf l++cellsOf m
 | [],_=>rfl
 | x::t,m=>by simp only[List.cons_append,cellsOf,ZV t m]
theorem jnx (x:ByteArray×Int) (t:V):nm (x::t) 0=x.1:=rfl
theorem jim (x:ByteArray×Int) (t:V) (i:Nat):nm (x::t) (i+1)=nm t i:=rfl
theorem jm2 (x:ByteArray×Int) (t:V):qn (x::t) 0=x.2:=rfl
theorem jig (x:ByteArray×Int) (t:V) (i:Nat):qn (x::t) (i+1)=qn t i:=rfl
theorem qq:∀(l:V) (i:Nat),i<l.length→(cellsOf l)[i*2]?=some (.string (nm l i))∧(cellsOf l)[i*2+1]?=some (.int .i64 (qn l i))
 | [],i,h=>absurd h (by simp)
 | x::t,0,_=>⟨rfl,rfl⟩
 | x::t,i+1,h=>by
  have:=qq t i (by simpa using h);rw[jim,jig,show (i+1)*2=i*2+1+1 from by omega];exact this
theorem Yq:∀(l:V) (u:Value),u ∈ cellsOf l→u.oneCell'=true
 | x::t,u,h=>by
  simp only[cellsOf,List.mem_cons] at h;rcases h with rfl | rfl | h
  · rfl
  · rfl
  · exact Yq t u h
theorem zp.cons {x:ByteArray×Int} {t:V}:zp (x::t)↔(x.1.size≤maxLen∧-9223372036854775808≤x.2∧x.2≤9223372036854775807)∧zp t:=by
 constructor
 · intro h;exact⟨h 0 (by simp),fun i hi=>h (i+1) (by simpa using hi)⟩
 · rintro ⟨h0,h⟩ i hi
   cases i with
   | zero=>exact h0
   | succ i=>exact h i (by simpa using hi)
theorem zp.nil:zp []:=fun i hi=>absurd hi (by simp)
theorem zp.snoc:∀{l:V} {s:ByteArray} {n:Int},zp l→s.size≤maxLen→-9223372036854775808≤n→n≤9223372036854775807→zp (l++[(s,n)])
 | [],s,n,_,h1,h2,h3=>zp.cons.2 ⟨⟨h1,h2,h3⟩,zp.nil⟩
 | x::t,s,n,h,h1,h2,h3=>by
  rw[zp.cons] at h;exact zp.cons.2 ⟨h.1,h.2.snoc h1 h2 h3⟩
def jH (e:TypeId) (w:World) (base:Nat) (v:Value) (l:V):Prop:=w.ownsRow base e 2 v l.length (cellsOf l)∧zp l
theorem jH.nil (e:TypeId) (w:World) (base:Nat):jH e w base (.slice none 0 0) []:=⟨World.ownsRow_nil w base e 2,zp.nil⟩
theorem jH.at_ {e:TypeId} {w:World} {base:Nat} {v:Value} {l:V} (h:jH e w base v l) :
 ∃a cap,v=.slice a l.length cap∧l.length≤cap∧cap≤maxLen∧jt w a l.length l:=by
 obtain⟨h,hf⟩:=h;have h':=h;obtain⟨_,h1⟩:=h;rcases h1 with ⟨rfl,h0⟩ | ⟨g,cap,cur,rfl,hbg,hg,hn,hm,hs,ht⟩
 · have:l=[]:=List.eq_nil_of_length_eq_zero h0;subst this;exact⟨none,0,rfl,Nat.le_refl _,by decide,jt.nil w⟩
 · refine⟨_,cap,rfl,hn,hm,rfl,Nat.le_trans hn hm,hf,.inr ⟨g,0,rfl,?_,fun i hi=>?_⟩⟩
   · rcases Nat.lt_or_ge g w.heap.size with hlt | hge
     · exact hlt
     · rw[Array.getElem?_eq_none hge] at hg;cases hg
   · have c:=h'.cells (g:=g) rfl;have d:=qq l i hi;have c1:=c _ _ d.1;have c2:=c _ _ d.2;constructor
     · rw[←c1];congr 1;unfold Addr.add;split<;>simp_all
     · rw[←c2];congr 1
theorem jH.kept {e:TypeId} {w w':World} {base:Nat} {v:Value} {l:V} (h:jH e w base v l) (k:Kept w w'):jH e w' base v l:=by
 obtain⟨⟨h0,h1⟩,hf⟩:=h;refine⟨⟨h0,h1.imp id ?_⟩,hf⟩;rintro ⟨g,cap,cur,rfl,hbg,hg,hn,hm,hs,ht⟩;refine⟨g,cap,cur,rfl,hbg,?_,hn,hm,hs,ht⟩;have hlt:g<w.heap.size:=by
  rcases Nat.lt_or_ge g w.heap.size with hlt | hge
  · exact hlt
  · rw[Array.getElem?_eq_none hge] at hg;cases hg
 exact(k.block g hlt).trans hg
theorem jif:(Tryz.prog.info? 140).map (fun i=>(i.zero,i.size,i.bytes))=some (some (.agg #[.string ByteArray.empty,.int .i64 0]),2,24):=by kernel_rfl
def jnP (base:Nat) (l:V) (w:World) (e:Ending) (w':World):Prop:=∃v,e=.returned v∧jH 140 w' base v l∧Below base w w'
theorem jcU (w:World) (s:ByteArray) (n:Int) (T:TypeId):∀j u,[Value.string s,.int .i64 n][j]?=some u →
 (w.alloc (.cells #[.string s,.int .i64 n] T)).cell? ((⟨w.heap.size,0,none⟩:Addr).add j)=some u :=
 World.news_of_block (cs:=#[.string s,.int .i64 n]) (t:=T) (fr:=(0,0)) (w.alloc_heap_new _)
theorem jlc (v:Value) (s:ByteArray) (w:World) :
 Calls Tryz.prog 283 #[v,.string s,.int .i64 0] w fun e w'=>e=.returned v∧w=w':=by
 go_enter Tryz.func283,Tryz.ntmps283;go_wp2;go_ret;exact⟨rfl,rfl⟩
theorem jke (v:Value) (s:ByteArray) (n:Int) (base:Nat) (l:V) (w:World) (h:jH 140 w base v l) (hn:n≠0) (hs:s.size≤maxLen) (h1:-9223372036854775808≤n) (h2:n≤9223372036854775807)
 (hl:l.length≤1000000) (hb:base≤w.heap.size) :
 Calls Tryz.prog 283 #[v,.string s,.int .i64 n] w (jnP base (l++[(s,n)]) w):=by
 have h3:(n==0)=false:=by simpa using hn
 clear hn;obtain⟨i0,hi,hz0,hz1,hz2⟩:=info_parts jif;obtain⟨hown,hf⟩:=h;have HF:=lH (hf.snoc hs h1 h2);clear hf hs;go_enter Tryz.func283,Tryz.ntmps283;go_wp2_with (at_builtin;refine wpList_append_lies _ rfl (.tmp 10) (.tmp 14) _ rfl base 140 i0 _ 2 24 Tryz.underlying37 hi hz0 hz1 hz2 rfl (by decide) v l.length (cellsOf l) rfl (hown.alloc _) ⟨w.heap.size,0,none⟩ 1 1 [.string s,.int .i64 n] rfl rfl (jcU _ _ _ _) (Yq [(s,n)]) (by decide) (by unfold maxLen;omega) (by omega) (by rw[World.size_alloc];omega) (w.heap.size+1) (World.size_alloc _ _) ?_;intro g cap w1 hown1 hgrow hg hlt;refine Hid.out ?_)
 refine lH ?_;go_wp2;go_ret;refine⟨_,rfl,⟨?_,HF.out⟩,((Below.refl _ w).alloc hb _).grown hgrow (by rw[World.size_alloc];omega) (fun k hk=>?_)⟩
 · rw[List.length_append,ZV];exact hown1
 · exact(hown.lt k hk).1
def jy:V→ByteArray→Int×V
 | [],_=>(0,[])
 | x::t,n=>if eqS x.1 n=true then (x.2,t) else (0,x::t)
def jl:V→V→ByteArray
 | [],[]=>ByteArray.empty
 | [],y::_=>y.1
 | x::_,[]=>x.1
 | x::_,y::_=>if ltS y.1 x.1=true then y.1 else x.1
def Reads (w:World) (v:Value) (l:V):Prop:=∃a cap,v=.slice a l.length cap∧l.length≤cap∧cap≤maxLen∧jt w a l.length l
theorem Reads.kept {w w':World} {v:Value} {l:V} (h:Reads w v l) (k:Kept w w'):Reads w' v l:=by
 obtain⟨a,cap,e,h1,h2,h3⟩:=h;exact⟨a,cap,e,h1,h2,h3.kept k⟩
theorem jlE (n:Int) (w:World):Calls Tryz.prog 284 #[.int .i64 n,.int .i64 0] w fun e w'=>e=.returned (.int .i64 n)∧w=w':=by
 go_enter Tryz.func284,Tryz.ntmps284;go_wp2;go_ret;exact⟨rfl,rfl⟩
theorem jkS (n x:Int) (w:World) (h:x≠0):Calls Tryz.prog 284 #[.int .i64 n,.int .i64 x] w fun e w'=>e=.panicked [ju x]∧w=w':=by
 have h3:(x != 0)=true:=by simpa using h
 clear h;go_enter Tryz.func284,Tryz.ntmps284;go_wp2;exact⟨rfl,rfl,rfl⟩
theorem jt.first {w:World} {b off len:Nat} {x:ByteArray×Int} {t:V} (h:jt w (some ⟨b,off,none⟩) len (x::t)) :
 b<w.heap.size∧w.cell? ⟨b,off,none⟩=some (.string x.1)∧w.cell? ⟨b,off+1,none⟩=some (.int .i64 x.2):=by
 have hl:0<len:=by have:=h.1;simp only[List.length_cons] at this;omega
 have:=h.cells hl;simpa [jnx,jm2] using this
theorem jge (a a':Option Addr) (len cap len' cap':Nat) (l l':V) (w:World) (hr:jt w a len l) (hr':jt w a' len' l') (hne:0<len+len') :
 Calls Tryz.prog 281 #[.slice a len cap,.slice a' len' cap'] w fun e w'=>e=.returned (.string (jl l l'))∧Kept w w':=by
 have hl:=hr.1;have hm:=hr.2.1;have hl':=hr'.1;have hm':=hr'.2.1;unfold maxLen at hm hm'
 cases l with
 | nil =>
  obtain rfl:len=0:=by simpa using hl.symm
  cases l' with
  | nil=>exfalso;simp at hl';omega
  | cons y t =>
   have h0:0<len':=by omega
   rcases hr'.form with h | ⟨b,off,rfl⟩
   · omega
   obtain⟨hb,c1,c2⟩:=hr'.first
   clear hr hr' hl hl';have h1:decide (0<len')=true:=by simpa using h0
   go_enter Tryz.func281,Tryz.ntmps281;go_wp2;go_quiet (fail)
   go_wp2;go_ret;exact⟨rfl,Kept.drewN _ _⟩
 | cons x s =>
  have h0:0<len:=by simp only[List.length_cons] at hl;omega
  have h0':((len:Int)==0)=false:=by
   have:(len:Int)≠0:=by omega
   simpa using this
  rcases hr.form with h | ⟨b,off,rfl⟩
  · omega
  obtain⟨hb,c1,c2⟩:=hr.first
  cases l' with
  | nil =>
   obtain rfl:len'=0:=by simpa using hl'.symm
   clear hr hr' hl hl';go_enter Tryz.func281,Tryz.ntmps281;go_wp2;go_quiet (fail)
   go_wp2;go_ret;exact⟨rfl,Kept.drewN _ _⟩
  | cons y t =>
   have g0:0<len':=by simp only[List.length_cons] at hl';omega
   have g1:decide (0<len')=true:=by simpa using g0
   rcases hr'.form with h | ⟨b',off',rfl⟩
   · omega
   obtain⟨hb',d1,d2⟩:=hr'.first
   clear hr hr' hl hl';by_cases e:ltS y.1 x.1=true
   · have E:=lH (show jl (x::s) (y::t)=y.1 by rw[jl,if_pos e]);have e':Op.bytesLess y.1.toList x.1.toList=true:=e;clear e;go_enter Tryz.func281,Tryz.ntmps281;go_wp2;go_quiet (fail)
     go_wp2;go_ret;exact⟨by rw[E.out];rfl,Kept.drewN _ _⟩
   · have e:ltS y.1 x.1=false:=by simpa using e
     have E:=lH (show jl (x::s) (y::t)=x.1 by rw[jl,if_neg (by rw[e];decide)]);have e':Op.bytesLess y.1.toList x.1.toList=false:=e;clear e;go_enter Tryz.func281,Tryz.ntmps281;go_wp2;go_quiet (fail)
     go_wp2;go_ret;exact⟨by rw[E.out];rfl,Kept.drewN _ _⟩
def jgK (a:Option Addr) (len:Nat) (l:V) (n:ByteArray) (w:World) (e:Ending) (w':World):Prop :=
 ∃A c,e=.returned (.tuple #[.int .i64 (jy l n).1,.slice A (jy l n).2.length c])∧(jy l n).2.length≤c∧c≤maxLen∧(∀W,jt W a len l→jt W A (jy l n).2.length (jy l n).2)∧Kept w w'
theorem jt.tail {w:World} {b off len:Nat} {x:ByteArray×Int} {t:V} (h:jt w (some ⟨b,off,none⟩) len (x::t)):jt w (some ⟨b,off+2,none⟩) (len-1) t:=by
 have hl:=h.1;simp only[List.length_cons] at hl;refine⟨by omega,by have:=h.2.1;omega,(zp.cons.1 h.2.2.1).2,?_⟩;by_cases h0:len-1=0
 · exact .inl h0
 · refine .inr ⟨b,off+2,rfl,(h.cells (k:=0) (by omega)).1,fun i hi=>?_⟩;have:=(h.cells (k:=i+1) (by omega)).2;rw[jim,jig,show off+(i+1)*2=off+2+i*2 from by omega] at this;exact this
theorem jt.none_tail {w:World} {a:Option Addr} {len:Nat} {x:ByteArray×Int} {t:V} (h:jt w a len (x::t)) (h1:len=1):jt w a (len-1) t:=by
 have hl:=h.1;simp only[List.length_cons] at hl;exact⟨by omega,by have:=h.2.1;omega,(zp.cons.1 h.2.2.1).2,.inl (by omega)⟩
theorem jeB (a:Option Addr) (len cap:Nat) (l:V) (n:ByteArray) (w:World) (hr:jt w a len l) (hc:len≤cap) (hm:cap≤maxLen) :
 Calls Tryz.prog 282 #[.slice a len cap,.string n] w (jgK a len l n w):=by
 have hl:=hr.1;have hm':=hm;unfold maxLen at hm
 cases l with
 | nil =>
  obtain rfl:len=0:=by simpa using hl.symm
  have HT:=lH (show jgK a 0 [] n w (.returned (.tuple #[.int .i64 0,.slice a 0 cap])) w from⟨a,cap,rfl,hc,hm',fun _ h=>h,Kept.refl _⟩);clear hr hl hm';go_enter Tryz.func282,Tryz.ntmps282;go_wp2;go_ret2
  exact HT.out
 | cons x s =>
  have h0:0<len:=by simp only[List.length_cons] at hl;omega
  have h0':((len:Int)==0)=false:=by
   have:(len:Int)≠0:=by omega
   simpa using this
  rcases hr.form with h | ⟨b,off,rfl⟩
  · omega
  obtain⟨hb,c1,c2⟩:=hr.first
  by_cases e:eqS x.1 n=true
  · have E:=lH (show jy (x::s) n=(x.2,s) by rw[jy,if_pos e]);have e':(x.1.toList==n.toList)=true:=e;have e'':(x.1.toList != n.toList)=false:=by rw[bne,e'];rfl
    have HR:=lH hr;have HM:=lH hm';have HL:=lH hl;clear e hr hl hm';by_cases hcap:cap=1
    · subst hcap;obtain rfl:len=1:=by omega
      obtain rfl:s=[]:=by have:=HL.out;simp only[List.length_cons] at this;exact List.eq_nil_of_length_eq_zero (by omega)
      have HT:=lH (show ∀k,jgK (some ⟨b,off,none⟩) 1 [x] n w (.returned (.tuple #[.int .i64 x.2,.slice (some ⟨b,off,none⟩) 0 0])) (w.drewN k) from fun k=>⟨some ⟨b,off,none⟩,0,by rw[E.out];rfl,by rw[E.out];exact Nat.le_refl _,by decide,by rw[E.out];exact fun W h=>h.none_tail rfl,Kept.drewN _ _⟩);go_enter Tryz.func282,Tryz.ntmps282;go_wp2;go_quiet (fail)
      go_wp2;go_ret2
      exact HT.out _
    · have hc2:2≤cap:=by omega
      have hl1:len-1=s.length:=by have:=HL.out;simp only[List.length_cons] at this;omega
      have HT:=lH (show ∀k,jgK (some ⟨b,off,none⟩) len (x::s) n w (.returned (.tuple #[.int .i64 x.2,.slice (some ⟨b,off+2,none⟩) (len-1) (cap-1)])) (w.drewN k) from fun k =>
       ⟨some ⟨b,off+2,none⟩,cap-1,by rw[E.out,hl1],by rw[E.out];show s.length≤cap-1;omega,by unfold maxLen;omega,by rw[E.out];intro W h;have:=h.tail;rw[hl1] at this;exact this,Kept.drewN _ _⟩)
      clear hl1;have hc3:¬cap=1:=hcap;have hc4:¬cap-1=0:=by omega
      clear hcap;go_enter Tryz.func282,Tryz.ntmps282;go_wp2;go_quiet (fail)
      go_wp2;go_ret2
      exact HT.out _
  · have e:eqS x.1 n=false:=by simpa using e
    have E:=lH (show jy (x::s) n=(0,x::s) by rw[jy,if_neg (by rw[e];decide)]);have e':(x.1.toList==n.toList)=false:=e;have e'':(x.1.toList != n.toList)=true:=by rw[bne,e'];rfl
    have HT:=lH (show jgK (some ⟨b,off,none⟩) len (x::s) n w (.returned (.tuple #[.int .i64 0,.slice (some ⟨b,off,none⟩) len cap])) w from⟨some ⟨b,off,none⟩,cap,by rw[E.out];show _=Ending.returned (.tuple #[_,Value.slice _ (x::s).length _]);rw[hl],by rw[E.out];show (x::s).length≤cap;omega,hm',by rw[E.out];intro W h;show jt W _ (x::s).length (x::s);rw[hl];exact h,Kept.refl _⟩);clear e hr hl hm';go_enter Tryz.func282,Tryz.ntmps282;go_wp2;go_ret2
    exact HT.out
def jR (x y:Int):Int×Int:=if x+y≤9223372036854775807 then (x+y,0) else (0,5)
theorem jiA {x y:Int} (h:0≤x∧x≤9223372036854775807) (g:0≤y∧y≤9223372036854775807):0≤(jR x y).1∧(jR x y).1≤9223372036854775807:=by
 unfold jR;split
 · dsimp only;omega
 · decide
def plusV (acc:V) (s:ByteArray) (n:Int):V:=if n=0 then acc else acc++[(s,n)]
def JT (f:Int→Int→Int×Int):Nat→V→V→V→Int×V
 | 0,_,_,acc=>(0,acc)
 | fuel+1,la,lb,acc =>
  if la.length+lb.length=0 then (0,acc)
  else
   let s:=jl la lb
   let r:=f (jy la s).1 (jy lb s).1
   if r.2≠0 then (r.2,[]) else JT f fuel (jy la s).2 (jy lb s).2 (plusV acc s r.1)
def jx (f:Int→Int→Int×Int) (l l':V):Int×V :=
 if jm l≠0 then (jm l,[])
 else if jm l'≠0 then (jm l',[])
 else
  let r:=JT f (l.length+l'.length) l l' []
  if r.1≠0 then (r.1,[]) else if 8<r.2.length then (4,[]) else (0,r.2)
theorem jkn {f:Int→Int→Int×Int} {fuel:Nat} {la lb acc:V} (h:la.length+lb.length=0):JT f fuel la lb acc=(0,acc):=by
 cases fuel with
 | zero=>rfl
 | succ n=>rw[JT,if_pos h]
theorem jkz {f:Int→Int→Int×Int} {fuel:Nat} {la lb acc:V} (h:0<la.length+lb.length) (hf:la.length+lb.length≤fuel)
 (hx:(f (jy la (jl la lb)).1 (jy lb (jl la lb)).1).2≠0):JT f fuel la lb acc=((f (jy la (jl la lb)).1 (jy lb (jl la lb)).1).2,[]):=by
 cases fuel with
 | zero=>omega
 | succ n=>rw[JT,if_neg (by omega)];dsimp only;rw[if_pos hx]
theorem jjs {f:Int→Int→Int×Int} {fuel:Nat} {la lb acc:V} (h:0<la.length+lb.length) (hf:la.length+lb.length≤fuel)
 (hx:(f (jy la (jl la lb)).1 (jy lb (jl la lb)).1).2=0) :
 ∃fuel',fuel=fuel'+1∧JT f fuel la lb acc=JT f fuel' (jy la (jl la lb)).2 (jy lb (jl la lb)).2 (plusV acc (jl la lb) (f (jy la (jl la lb)).1 (jy lb (jl la lb)).1).1):=by
 cases fuel with
 | zero=>omega
 | succ n=>exact⟨n,rfl,by rw[JT,if_neg (by omega)];dsimp only;rw[if_neg (by rw[hx];decide)]⟩
theorem qC (s:ByteArray):eqS s s=true:=by unfold eqS;exact beq_self_eq_true _
theorem Jb (x:ByteArray×Int) (t:V) (n:ByteArray):jy (x::t) n=if eqS x.1 n=true then (x.2,t) else (0,x::t):=rfl
theorem ZA (x y:ByteArray×Int) (s t:V):jl (x::s) (y::t)=if ltS y.1 x.1=true then y.1 else x.1:=rfl
theorem jgL (l:V) (s:ByteArray):(jy l s).2.length≤l.length:=by
 cases l with
 | nil=>exact Nat.le_refl _
 | cons x t=>rw[Jb];split<;>simp
theorem jaz {x:ByteArray×Int} (t:V):(jy (x::t) x.1).2.length=t.length:=by
 rw[Jb,if_pos (qC _)]
theorem jiM {la lb:V} (h:0<la.length+lb.length):(jy la (jl la lb)).2.length+(jy lb (jl la lb)).2.length+1≤la.length+lb.length:=by
 cases la with
 | nil =>
  cases lb with
  | nil=>simp at h
  | cons y t =>
   have e:jl [] (y::t)=y.1:=rfl;rw[e,jaz t];simp[jy]
 | cons x s =>
  cases lb with
  | nil =>
   have e:jl (x::s) []=x.1:=rfl;rw[e,jaz s];simp[jy]
  | cons y t =>
   by_cases hlt:ltS y.1 x.1=true
   · have e:jl (x::s) (y::t)=y.1:=by rw[jl,if_pos hlt]
     have:=jgL (x::s) y.1;rw[e,jaz t];simp only[List.length_cons] at *;omega
   · have e:jl (x::s) (y::t)=x.1:=by rw[jl,if_neg hlt]
     have:=jgL (y::t) x.1;rw[e,jaz s];simp only[List.length_cons] at *;omega
def Pos (l:V):Prop:=∀x ∈ l,0≤x.2∧x.2≤9223372036854775807∧x.1.size≤maxLen
theorem jeD {l:V} (h:Pos l) (s:ByteArray):(0≤(jy l s).1∧(jy l s).1≤9223372036854775807)∧Pos (jy l s).2:=by
 cases l with
 | nil=>exact⟨⟨by simp[jy],by simp[jy]⟩,h⟩
 | cons x t =>
  have hx:=h x (by simp);rw[Jb];split
  · exact⟨⟨hx.1,hx.2.1⟩,fun y hy=>h y (by simp[hy])⟩
  · exact⟨⟨Int.le_refl _,by show (0:Int)≤_;omega⟩,h⟩
theorem jfn {la lb:V} (ha:Pos la) (hb:Pos lb):(jl la lb).size≤maxLen:=by
 cases la with
 | nil =>
  cases lb with
  | nil=>show 0≤maxLen;exact Nat.zero_le _
  | cons y t=>exact(hb y (by simp)).2.2
 | cons x s =>
  cases lb with
  | nil=>exact(ha x (by simp)).2.2
  | cons y t =>
   rw[ZA];split
   · exact(hb y (by simp)).2.2
   · exact(ha x (by simp)).2.2
theorem je0 {l:V} (h:jm l=0) (hf:zp l):Pos l:=by
 have h2:jG none l=0:=by
  unfold jm at h;split at h
  · cases h
  · exact h
 have key:∀(l:V) (p:Option ByteArray),jG p l=0→zp l→Pos l:=by
  intro l
  induction l with
  | nil=>intro _ _ _ x hx;cases hx
  | cons x t ih =>
   intro p hc hf;rw[zp.cons] at hf;unfold jG at hc;split at hc
   · cases hc
   · split at hc
     · cases hc
     · split at hc
       · cases hc
       · intro y hy;rcases List.mem_cons.1 hy with rfl | hy
         · exact⟨by omega,hf.1.2.2,hf.1.1⟩
         · exact ih _ hc hf.2 y hy
 exact key l none h2 hf
theorem YI {l:V} (h:jm l=0):l.length≤8:=by
 unfold jm at h;split at h
 · cases h
 · omega
def lenOf:Value→Nat
 | .slice _ n _=>n
 | _=>0
def zM (r:Int×V) (base:Nat) (w:World) (e:Ending) (w':World):Prop :=
 (r.1=0→∃v,e=.returned v∧jH 140 w' base v r.2)∧(r.1≠0→e=.panicked [ju r.1])∧Below base w w'
theorem zM.good {r:Int×V} {base:Nat} {w w':World} {v:Value} (h:r.1=0) (ho:jH 140 w' base v r.2) (hb:Below base w w'):zM r base w (.returned v) w':=⟨fun _=>⟨v,rfl,ho⟩,fun g=>absurd h g,hb⟩
theorem zM.bad {r:Int×V} {base:Nat} {w w':World} {c:Int} (h:r.1=c) (hc:c≠0) (hb:Below base w w'):zM r base w (.panicked [ju c]) w':=⟨fun g=>absurd (h.symm.trans g) hc,fun _=>by rw[h],hb⟩
end Go.Proofs.YthmddloeggdohaaGreatDoor.Vec
