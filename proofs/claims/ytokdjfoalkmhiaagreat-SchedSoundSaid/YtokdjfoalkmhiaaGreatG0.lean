/- C. -/
import Derived.Test.YtokdjfoalkmhiaaGreatShort
import Derived.Test.YtokdjfoalkmhiaaGreatProg
import Derived.WalkLawsBesides
import Derived.WalkSpells
import Derived.Deep.AppendLies
import Derived.Shelf.Small.Bits
import Derived.Shelf.Small.Wraps
import Derived.Shelf.Slices.Turned
import Derived.Shelf.Slices.SearchI
import Derived.Lib.Split
import Derived.Lib.Join
import Derived.Lib.ParseIntB
import Derived.Lib.ItoaNum
import Derived.RangeFuncNested
import Derived.RangeFuncBound
import Derived.Shelf.RegionOpen
import Derived.OwnWalkIn
import Derived.LoopNIn
import Derived.LoopIn
import Derived.Lib.AtoiErrMem
set_option linter.unusedVariables false
set_option maxRecDepth 100000
set_option maxHeartbeats 25600000
namespace Go.Proofs.YtokdjfoalkmhiaaGreat
open Go.RowKit
def Kept (w w':World):Prop:=Below w.heap.size w w'
theorem Kept.refl (w:World):Kept w w:=Below.refl _ _
theorem Kept.trans {a b c:World} (h:Kept a b) (k:Kept b c):Kept a c:=Below.trans h (Below.mono k h.size)
theorem Kept.drewN (w:World) (n:Nat):Kept w (w.drewN n):=below_drewN (Below.refl _ _) n
theorem Kept.drew (w:World):Kept w w.drew:=Kept.drewN w 1
theorem ja (w:World) (o:Obj):Kept w (w.alloc o):=(Below.refl _ _).alloc (Nat.le_refl _) _
theorem JF (w:World) (o:Obj) (n:Nat):Kept w ((w.drewN n).alloc o):=(ja w o).trans (Kept.drewN _ n)
theorem jn (w:World) (o o':Obj):Kept w ((w.alloc o).alloc o'):=(ja w o).trans (ja _ o')
theorem cell_later {w w':World} {a:Addr} {u:Value} (k:Kept w w') (h:w.cell? a=some u):w'.cell? a=some u :=
 (Below.cell k (World.block_lt_of_cell? _ _ h)).trans h
theorem jb {a b:Int} (h:a=b):Ending.returned (.int .i64 a)=.returned (.int .i64 b):=by rw[h]
def ltS (s t:ByteArray):Bool:=Op.bytesLess s.toList t.toList
def eqS (s t:ByteArray):Bool:=s.toList==t.toList
def leS (s t:ByteArray):Bool:=ltS s t||eqS s t
theorem jR {s t:ByteArray}:eqS s t=true↔s=t:=by
 unfold eqS;rw[Lib.toList_data,Lib.toList_data,beq_iff_eq];constructor
 · intro h
   cases s;cases t
   simp only[ByteArray.mk.injEq];exact Array.ext' h
 · rintro rfl;rfl
theorem zh (s:ByteArray):eqS s s=true:=jR.2 rfl
structure Lay (α:Type) where
 m:Nat
 cs:α→List Value
 fine:α→Prop
 len:∀x,(cs x).length=m
 one:∀x u,u ∈ cs x→u.oneCell'=true
 pos:0<m
theorem jae (x:ByteArray) (u:Value) (h:u ∈ [Value.string x]):u.oneCell'=true:=by
 have e:u=Value.string x:=by simpa using h
 rw[e];rfl
theorem jfb (x y:ByteArray) (u:Value) (h:u ∈ [Value.string x,Value.string y]):u.oneCell'=true:=by
 have e:u=Value.string x∨u=Value.string y:=by simpa using h
 rcases e with e | e<;>rw[e]<;>rfl
theorem jhm (o:Int) (x y:ByteArray) (u:Value) (h:u ∈ [Value.int .i64 o,Value.string x,Value.string y]):u.oneCell'=true:=by
 have e:u=Value.int .i64 o∨u=Value.string x∨u=Value.string y:=by simpa using h
 rcases e with e | e | e<;>rw[e]<;>rfl
def zl:Lay ByteArray:={ m:=1,cs:=fun s=>[.string s],fine:=fun s=>s.size≤maxLen,len:=fun _=>rfl,one:=jae,pos:=by decide }
def jz:Lay (ByteArray×ByteArray):={ m:=2,cs:=fun x=>[.string x.1,.string x.2],fine:=fun x=>x.1.size≤maxLen∧x.2.size≤maxLen,len:=fun _=>rfl,one:=fun x=>jfb x.1 x.2,pos:=by decide }
def jP:Lay (Int×ByteArray×ByteArray):={ m:=3,cs:=fun x=>[.int .i64 x.1,.string x.2.1,.string x.2.2],fine:=fun x=>(-9223372036854775808≤x.1∧x.1≤9223372036854775807)∧x.2.1.size≤maxLen∧x.2.2.size≤maxLen,len:=fun _=>rfl,one:=fun x=>jhm x.1 x.2.1 x.2.2,pos:=by decide }
def jk {α:Type} (L:Lay α) (w:World) (a:Option Addr) (len:Nat) (l:List α):Prop :=
 l.length=len∧len≤maxLen∧(∀x ∈ l,L.fine x) ∧
  (len=0∨∃b off,a=some ⟨b,off,none⟩∧b<w.heap.size ∧
    ∀i x j u,l[i]?=some x→(L.cs x)[j]?=some u→w.cell? ⟨b,off+i*L.m+j,none⟩=some u)
theorem jk.kept {α:Type} {L:Lay α} {w w':World} {a:Option Addr} {len:Nat} {l:List α} (h:jk L w a len l) (k:Kept w w'):jk L w' a len l:=by
 obtain⟨h0,h1,h2,h3⟩:=h;refine⟨h0,h1,h2,h3.imp id ?_⟩;rintro ⟨b,off,ha,hb,hc⟩;exact⟨b,off,ha,Nat.lt_of_lt_of_le hb k.size,fun i x j u hi hj=>(Below.cell k (p:=⟨b,off+i*L.m+j,none⟩) hb).trans (hc i x j u hi hj)⟩
theorem jk.nil {α:Type} {L:Lay α} (w:World) (a:Option Addr):jk L w a 0 []:=⟨rfl,by decide,fun i hi=>absurd hi (by simp),.inl rfl⟩
theorem jk.form {α:Type} {L:Lay α} {w:World} {a:Option Addr} {len:Nat} {l:List α} (h:jk L w a len l):len=0∨∃b off,a=some ⟨b,off,none⟩:=by
 obtain⟨_,_,_,h3⟩:=h;exact h3.imp id fun ⟨b,off,e,_⟩=>⟨b,off,e⟩
theorem jk.cells {α:Type} {L:Lay α} {w:World} {b off len:Nat} {l:List α} {k:Nat} (h:jk L w (some ⟨b,off,none⟩) len l) (hk:k<len) :
 ∃x,l[k]?=some x∧l.drop k=x::l.drop (k+1)∧b<w.heap.size∧L.fine x∧∀(j:Nat) u,(L.cs x)[j]?=some u→w.cell? ⟨b,off+k*L.m+j,none⟩=some u:=by
 obtain⟨h0,_,hf,h3⟩:=h;have hkl:k<l.length:=by omega
 rcases h3 with h3 | ⟨b',off',e,hb,hc⟩
 · omega
 · injection e with e;injection e with e1 e2 e3;subst e1;subst e2;have he:l[k]?=some l[k]:=List.getElem?_eq_getElem hkl;exact⟨l[k],he,List.drop_eq_getElem_cons hkl,hb,hf _ (List.getElem_mem hkl),fun j u hu=>hc k _ j u he hu⟩
theorem jk.str {w:World} {b off len:Nat} {l:List ByteArray} {k:Nat} (h:jk zl w (some ⟨b,off,none⟩) len l) (hk:k<len) :
 ∃x:ByteArray,l[k]?=some x∧l.drop k=x::l.drop (k+1)∧b<w.heap.size∧x.size≤maxLen∧w.cell? ⟨b,off+k,none⟩=some (.string x):=by
 obtain⟨x,h1,h2,h3,h4,h5⟩:=h.cells hk;exact⟨x,h1,h2,h3,h4,by have:=h5 0 _ rfl;simpa [zl] using this⟩
theorem jk.pair {w:World} {b off len:Nat} {l:List (ByteArray×ByteArray)} {k:Nat} (h:jk jz w (some ⟨b,off,none⟩) len l) (hk:k<len) :
 ∃x y:ByteArray,l[k]?=some (x,y)∧l.drop k=(x,y)::l.drop (k+1)∧b<w.heap.size∧x.size≤maxLen∧y.size≤maxLen∧w.cell? ⟨b,off+k*2,none⟩=some (.string x)∧w.cell? ⟨b,off+k*2+1,none⟩=some (.string y):=by
 obtain⟨⟨x,y⟩,h1,h2,h3,h4,h5⟩:=h.cells hk;exact⟨x,y,h1,h2,h3,h4.1,h4.2,h5 0 _ rfl,h5 1 _ rfl⟩
theorem jk.term {w:World} {b off len:Nat} {l:List (Int×ByteArray×ByteArray)} {k:Nat} (h:jk jP w (some ⟨b,off,none⟩) len l) (hk:k<len) :
 ∃(o:Int) (x y:ByteArray),l[k]?=some (o,x,y)∧l.drop k=(o,x,y)::l.drop (k+1)∧b<w.heap.size∧(-9223372036854775808≤o∧o≤9223372036854775807)∧x.size≤maxLen∧y.size≤maxLen ∧
  w.cell? ⟨b,off+k*3,none⟩=some (.int .i64 o)∧w.cell? ⟨b,off+k*3+1,none⟩=some (.string x)∧w.cell? ⟨b,off+k*3+2,none⟩=some (.string y):=by
 obtain⟨⟨o,x,y⟩,h1,h2,h3,h4,h5⟩:=h.cells hk;exact⟨o,x,y,h1,h2,h3,h4.1,h4.2.1,h4.2.2,h5 0 _ rfl,h5 1 _ rfl,h5 2 _ rfl⟩
def je {α:Type} (L:Lay α) (l:List α):List Value:=l.flatMap L.cs
theorem jZ {α:Type} (L:Lay α):∀l:List α,(je L l).length=l.length*L.m
 | []=>by simp[je]
 | x::t=>by
  have:=jZ L t;unfold je at this ⊢;rw[List.flatMap_cons,List.length_append,this,L.len,List.length_cons,Nat.add_mul,Nat.one_mul,Nat.add_comm]
theorem JD {α:Type} (L:Lay α) (l m:List α):je L (l++m)=je L l++je L m:=by unfold je;rw[List.flatMap_append]
theorem Jk {α:Type} (L:Lay α) (l:List α) (u:Value) (h:u ∈ je L l):u.oneCell'=true:=by
 obtain⟨x,_,hu⟩:=List.mem_flatMap.1 h;exact L.one x u hu
theorem Yr {α:Type} (L:Lay α):∀(l:List α) (i:Nat) (x:α) (j:Nat) (u:Value),l[i]?=some x→(L.cs x)[j]?=some u→(je L l)[i*L.m+j]?=some u
 | [],i,x,j,u,h,_=>by simp at h
 | y::t,0,x,j,u,h,hu=>by
  have:y=x:=by simpa using h
  subst this;unfold je;rw[List.flatMap_cons,Nat.zero_mul,Nat.zero_add,List.getElem?_append_left (List.getElem?_eq_some_iff.1 hu).1];exact hu
 | y::t,i+1,x,j,u,h,hu=>by
  have ih:=Yr L t i x j u (by simpa using h) hu;unfold je at ih ⊢;rw[List.flatMap_cons,List.getElem?_append_right (by rw[L.len,Nat.add_mul];omega),L.len];have:(i+1)*L.m+j-L.m=i*L.m+j:=by rw[Nat.add_mul];omega
  rw[this];exact ih
def Own {α:Type} (L:Lay α) (e:TypeId) (w:World) (base:Nat) (v:Value) (l:List α):Prop:=w.ownsRow base e L.m v l.length (je L l)∧∀x ∈ l,L.fine x
theorem Own.nil {α:Type} {L:Lay α} (e:TypeId) (w:World) (base:Nat):Own L e w base (.slice none 0 0) []:=⟨World.ownsRow_nil w base e L.m,fun x h=>by cases h⟩
theorem Own.at_ {α:Type} {L:Lay α} {e:TypeId} {w:World} {base:Nat} {v:Value} {l:List α} (h:Own L e w base v l) :
 ∃a cap,v=.slice a l.length cap∧l.length≤cap∧cap≤maxLen∧jk L w a l.length l:=by
 obtain⟨h,hf⟩:=h;have h':=h;obtain⟨_,h1⟩:=h;rcases h1 with ⟨rfl,h0⟩ | ⟨g,cap,cur,rfl,hbg,hg,hn,hm,hs,ht⟩
 · have:l=[]:=List.eq_nil_of_length_eq_zero h0;subst this;exact⟨none,0,rfl,Nat.le_refl _,by decide,jk.nil w none⟩
 · refine⟨_,cap,rfl,hn,hm,rfl,Nat.le_trans hn hm,hf,.inr ⟨g,0,rfl,?_,fun i x j u hi hj=>?_⟩⟩
   · rcases Nat.lt_or_ge g w.heap.size with hlt | hge
     · exact hlt
     · rw[Array.getElem?_eq_none hge] at hg;cases hg
   · have c1:=h'.cells (g:=g) rfl _ _ (Yr L l i x j u hi hj);rw[←c1];congr 1
     unfold Addr.add;split<;>simp_all
theorem Own.kept {α:Type} {L:Lay α} {e:TypeId} {w w':World} {base:Nat} {v:Value} {l:List α} (h:Own L e w base v l) (k:Kept w w'):Own L e w' base v l:=by
 obtain⟨⟨h0,h1⟩,hf⟩:=h;refine⟨⟨h0,h1.imp id ?_⟩,hf⟩;rintro ⟨g,cap,cur,rfl,hbg,hg,hn,hm,hs,ht⟩;refine⟨g,cap,cur,rfl,hbg,?_,hn,hm,hs,ht⟩;have hlt:g<w.heap.size:=by
  rcases Nat.lt_or_ge g w.heap.size with hlt | hge
  · exact hlt
  · rw[Array.getElem?_eq_none hge] at hg;cases hg
 exact(k.block g hlt).trans hg
theorem Own.base_le {α:Type} {L:Lay α} {e:TypeId} {w:World} {B B':Nat} {v:Value} {l:List α} (h:Own L e w B' v l) (hb:B≤B'):Own L e w B v l:=by
 obtain⟨⟨h0,h1⟩,hf⟩:=h;refine⟨⟨h0,h1.imp id ?_⟩,hf⟩;rintro ⟨g,cap,cur,rfl,hbg,rest⟩;exact⟨g,cap,cur,rfl,Nat.le_trans hb hbg,rest⟩
theorem Own.setCell_below {α:Type} {L:Lay α} {e:TypeId} {w:World} {B:Nat} {v:Value} {l:List α} (h:Own L e w B v l) {a:Addr} (ha:a.block<B) (u:Value):Own L e (w.setCell a u) B v l :=
 ⟨ownsRow_setCell_below h.1 ha u,h.2⟩
theorem Own.put {α:Type} {L:Lay α} {e:TypeId} {w:World} {B D:Nat} {v:Value} {l:List α} (h:Own L e w B v l) (hD:D<B) (o:Obj):Own L e (w.putObj D o) B v l:=by
 obtain⟨⟨h0,h1⟩,hf⟩:=h;refine⟨⟨h0,h1.imp id ?_⟩,hf⟩;rintro ⟨g,cap,cur,rfl,hbg,hg,rest⟩;exact⟨g,cap,cur,rfl,hbg,(World.putObj_heap_other (by omega)).trans hg,rest⟩
def Reads {α:Type} (L:Lay α) (w:World) (v:Value) (l:List α):Prop:=∃a cap,v=.slice a l.length cap∧l.length≤cap∧cap≤maxLen∧jk L w a l.length l
theorem Reads.kept {α:Type} {L:Lay α} {w w':World} {v:Value} {l:List α} (h:Reads L w v l) (k:Kept w w'):Reads L w' v l:=by
 obtain⟨a,cap,e,h1,h2,h3⟩:=h;exact⟨a,cap,e,h1,h2,h3.kept k⟩
theorem Own.reads {α:Type} {L:Lay α} {e:TypeId} {w:World} {base:Nat} {v:Value} {l:List α} (h:Own L e w base v l):Reads L w v l:=by
 obtain⟨a,cap,e,h1,h2,h3⟩:=h.at_;exact⟨a,cap,e,h1,h2,h3⟩
abbrev zx (c:Int):PanicEntry:={ v:=.iface 45 (.int .i64 c),recovered:=false }
def Z1 (c:UInt8):Bool:=(decide (97≤(c.toNat:Int))&&decide ((c.toNat:Int)≤122))||(decide (48≤(c.toNat:Int))&&decide ((c.toNat:Int)≤57))
def isName (s:ByteArray):Bool:=decide (1≤s.size)&&decide (s.size≤12)&&s.data.toList.all Z1
theorem jeG {s:ByteArray} (h:s.size=0):s=ByteArray.empty:=by
 have e:s.data.toList=[]:=List.eq_nil_of_length_eq_zero (by rw[Array.length_toList,ByteArray.size_data];exact h);exact Go.WideShapes.bytes_inj (by rw[e];rfl)
theorem jd {a b:Bool} (h:a=b):Ending.returned (.bool a)=.returned (.bool b):=by rw[h]
theorem Yd (c:UInt8):Z1 c=true↔((97≤(c.toNat:Int)∧(c.toNat:Int)≤122)∨(48≤(c.toNat:Int)∧(c.toNat:Int)≤57)):=by
 unfold Z1;simp only[Bool.or_eq_true,Bool.and_eq_true,decide_eq_true_eq]
theorem jkF {s:ByteArray} (h:s.data.toList.all Z1=true) (i:Nat) (hi:i<s.size):Z1 s[i]=true:=by
 rw[List.all_eq_true] at h;exact h _ (by simp[ByteArray.getElem_eq_getElem_data])
theorem jct {s:ByteArray} (h:¬s.data.toList.all Z1=true):∃(j:Nat) (hj:j<s.size),Z1 s[j]=false:=by
 rw[List.all_eq_true] at h;obtain⟨x,h⟩:=Classical.not_forall.1 h;obtain⟨hx,hn⟩:=Classical.not_imp.1 h;obtain⟨j,hj,e⟩:=List.getElem_of_mem hx;refine⟨j,by simpa using hj,?_⟩;have:s[j]'(by simpa using hj)=x:=by rw[←e];simp[ByteArray.getElem_eq_getElem_data]
 rw[this];simpa using hn
theorem jek (c:UInt8) (w:World) (h1:48≤(c.toNat:Int)) (h2:(c.toNat:Int)≤57) :
 Calls Tryz.prog 231 #[.int .u8 (c.toNat:Int)] w fun e w'=>e=.returned (.bool true)∧w=w':=by
 go_enter Tryz.func231,Tryz.ntmps231;go_wp2;go_ret;exact⟨by simp[h1,h2],rfl⟩
theorem jfg (c:UInt8) (w:World) (h:(c.toNat:Int)<48∨57<(c.toNat:Int)) :
 Calls Tryz.prog 231 #[.int .u8 (c.toNat:Int)] w fun e w'=>e=.returned (.bool false)∧w=w':=by
 by_cases h1:(c.toNat:Int)<48
 · go_enter Tryz.func231,Tryz.ntmps231;go_wp2;go_ret;exact⟨rfl,rfl⟩
 · have h2:57<(c.toNat:Int):=by omega
   have h3:48≤(c.toNat:Int):=by omega
   have h4:decide ((c.toNat:Int)≤57)=false:=by simpa using h2
   clear h h1;go_enter Tryz.func231,Tryz.ntmps231;go_wp2;go_ret;exact⟨rfl,rfl⟩
theorem jq (s:ByteArray) (w:World) (hs:s.size≤maxLen) :
 Calls Tryz.prog 177 #[.string s] w fun e w'=>e=.returned (.bool (isName s))∧w=w':=by
 unfold maxLen at hs;by_cases h1:1≤s.size
 · by_cases h2:s.size≤12
   · by_cases hall:s.data.toList.all Z1=true
     · have HV:=lH (show isName s=true by simp[isName,h1,h2,hall]);have HA:=lH (jkF hall);clear hall;go_enter Tryz.func177,Tryz.ntmps177;go_wp2;go_loop [3] (fun i=>∃k:Nat,k≤s.size∧i=.int .i64 k) (fun i=>s.size-(intOf i).toNat)
       case atStart=>exact⟨0,Nat.zero_le _,rfl⟩
       case round =>
        obtain⟨k,hk,rfl⟩:=hrel;by_cases hlt:k<s.size
        · have hok:=(Yd _).1 (HA.out k hlt);by_cases c1:(s[k].toNat:Int)<97
          · have c2:48≤(s[k].toNat:Int):=by omega
            have c3:(s[k].toNat:Int)≤57:=by omega
            clear hok;go_wp2;go_round
            case rel=>exact⟨k+1,by omega,by go_num⟩
            case measure=>simp[intOf];omega
          · have c2:(s[k].toNat:Int)≤122:=by omega
            clear hok;go_wp2;go_round
            case rel=>exact⟨k+1,by omega,by go_num⟩
            case measure=>simp[intOf];omega
        · go_wp2;go_ret;exact⟨jd HV.out.symm,rfl⟩
     · have HV:=lH (show isName s=false by simp only[isName,Bool.and_eq_false_iff];exact .inr (by simpa using hall));obtain⟨j,hj,hbad⟩:=jct hall;have HB:=lH hbad;clear hall hbad;go_enter Tryz.func177,Tryz.ntmps177;go_wp2;go_loop [3] (fun i=>∃k:Nat,k≤j∧i=.int .i64 k) (fun i=>s.size-(intOf i).toNat)
       case atStart=>exact⟨0,Nat.zero_le _,rfl⟩
       case round =>
        obtain⟨k,hk,rfl⟩:=hrel;have hlt:k<s.size:=by omega
        by_cases hok:Z1 s[k]=true
        · have hkj:k+1≤j:=by
           rcases Nat.lt_or_eq_of_le hk with g | g
           · exact g
           · subst g;rw[HB.out] at hok;cases hok
          have hok:=(Yd _).1 hok;by_cases c1:(s[k].toNat:Int)<97
          · have c2:48≤(s[k].toNat:Int):=by omega
            have c3:(s[k].toNat:Int)≤57:=by omega
            clear hok;go_wp2;go_round
            case rel=>exact⟨k+1,by omega,by go_num⟩
            case measure=>simp[intOf];omega
          · have c2:(s[k].toNat:Int)≤122:=by omega
            clear hok;go_wp2;go_round
            case rel=>exact⟨k+1,by omega,by go_num⟩
            case measure=>simp[intOf];omega
        · have hbad:¬((97≤(s[k].toNat:Int)∧(s[k].toNat:Int)≤122)∨(48≤(s[k].toNat:Int)∧(s[k].toNat:Int)≤57)):=fun g=>hok ((Yd _).2 g);clear hok;by_cases c1:(s[k].toNat:Int)<97
          · by_cases c2:(s[k].toNat:Int)<48
            · clear hbad;go_wp2;go_ret;exact⟨jd HV.out.symm,rfl⟩
            · have c3:57<(s[k].toNat:Int):=by omega
              clear hbad;go_wp2;go_ret;exact⟨jd HV.out.symm,rfl⟩
          · have c2:122<(s[k].toNat:Int):=by omega
            have c3:57<(s[k].toNat:Int):=by omega
            have c4:¬(s[k].toNat:Int)<48:=by omega
            clear hbad;go_wp2;go_ret;exact⟨jd HV.out.symm,rfl⟩
   · have HV:=lH (show isName s=false by simp[isName,h2]);have h3:12<s.size:=by omega
     clear h2;go_enter Tryz.func177,Tryz.ntmps177;go_wp2;go_ret;exact⟨jd HV.out.symm,rfl⟩
 · have HV:=lH (show isName s=false by simp[isName,h1]);have h3:s.size<1:=by omega
   clear h1;go_enter Tryz.func177,Tryz.ntmps177;go_wp2;go_ret;exact⟨jd HV.out.symm,rfl⟩
theorem zg (s:ByteArray) (w:World) (hs:s.size≤maxLen) :
 Calls Tryz.prog 197 #[.string s] w fun e w'=>e=.returned (.bool (isName s))∧w=w':=by
 unfold maxLen at hs;by_cases h1:1≤s.size
 · have hne:(s.toList==([]:List UInt8))=false:=by
    rw[Lib.toList_data]
    cases hl:s.data.toList with
    | nil=>have:s.size=0:=by rw[←ByteArray.size_data,←Array.length_toList,hl];rfl
           omega
    | cons x t=>rfl
   by_cases h2:s.size≤12
   · by_cases hall:s.data.toList.all Z1=true
     · have HV:=lH (show isName s=true by simp[isName,h1,h2,hall]);have HA:=lH (jkF hall);clear hall;go_enter Tryz.func197,Tryz.ntmps197;go_wp2;go_loop [14] (fun i=>∃k:Nat,k≤s.size∧i=.int .i64 k) (fun i=>s.size-(intOf i).toNat)
       case atStart=>exact⟨0,Nat.zero_le _,rfl⟩
       case round =>
        obtain⟨k,hk,rfl⟩:=hrel;by_cases hlt:k<s.size
        · have hok:=(Yd _).1 (HA.out k hlt);by_cases c1:97≤(s[k].toNat:Int)
          · have c2:(s[k].toNat:Int)≤122:=by omega
            clear hok;go_wp2;go_round
            case rel=>exact⟨k+1,by omega,by go_num⟩
            case measure=>simp[intOf];omega
          · have c2:48≤(s[k].toNat:Int):=by omega
            have c3:(s[k].toNat:Int)≤57:=by omega
            clear hok;go_wp2_with (go_at_call 231;refine(jek _ _ c2 c3).mono ?_;rintro e w' ⟨rfl,rfl⟩)
            go_round
            case rel=>exact⟨k+1,by omega,by go_num⟩
            case measure=>simp[intOf];omega
        · go_wp2;go_ret;exact⟨jd HV.out.symm,rfl⟩
     · have HV:=lH (show isName s=false by simp only[isName,Bool.and_eq_false_iff];exact .inr (by simpa using hall));obtain⟨j,hj,hbad⟩:=jct hall;have HB:=lH hbad;clear hall hbad;go_enter Tryz.func197,Tryz.ntmps197;go_wp2;go_loop [14] (fun i=>∃k:Nat,k≤j∧i=.int .i64 k) (fun i=>s.size-(intOf i).toNat)
       case atStart=>exact⟨0,Nat.zero_le _,rfl⟩
       case round =>
        obtain⟨k,hk,rfl⟩:=hrel;have hlt:k<s.size:=by omega
        by_cases hok:Z1 s[k]=true
        · have hkj:k+1≤j:=by
           rcases Nat.lt_or_eq_of_le hk with g | g
           · exact g
           · subst g;rw[HB.out] at hok;cases hok
          have hok:=(Yd _).1 hok;by_cases c1:97≤(s[k].toNat:Int)
          · have c2:(s[k].toNat:Int)≤122:=by omega
            clear hok;go_wp2;go_round
            case rel=>exact⟨k+1,by omega,by go_num⟩
            case measure=>simp[intOf];omega
          · have c2:48≤(s[k].toNat:Int):=by omega
            have c3:(s[k].toNat:Int)≤57:=by omega
            clear hok;go_wp2_with (go_at_call 231;refine(jek _ _ c2 c3).mono ?_;rintro e w' ⟨rfl,rfl⟩)
            go_round
            case rel=>exact⟨k+1,by omega,by go_num⟩
            case measure=>simp[intOf];omega
        · have hbad:¬((97≤(s[k].toNat:Int)∧(s[k].toNat:Int)≤122)∨(48≤(s[k].toNat:Int)∧(s[k].toNat:Int)≤57)):=fun g=>hok ((Yd _).2 g);have c4:(s[k].toNat:Int)<48∨57<(s[k].toNat:Int):=by omega
          have C4:=lH c4;clear hok;by_cases c1:97≤(s[k].toNat:Int)
          · have c2:decide ((s[k].toNat:Int)≤122)=false:=by
             have:122<(s[k].toNat:Int):=by omega
             simpa using this
            clear hbad c4;go_wp2_with (go_at_call 231;refine(jfg _ _ C4.out).mono ?_;rintro e w' ⟨rfl,rfl⟩)
            go_ret;exact⟨jd HV.out.symm,rfl⟩
          · clear hbad c4;go_wp2_with (go_at_call 231;refine(jfg _ _ C4.out).mono ?_;rintro e w' ⟨rfl,rfl⟩)
            go_ret;exact⟨jd HV.out.symm,rfl⟩
   · have HV:=lH (show isName s=false by simp[isName,h2]);have h3:12<s.size:=by omega
     clear h2;go_enter Tryz.func197,Tryz.ntmps197;go_wp2;go_ret;exact⟨jd HV.out.symm,rfl⟩
 · have HV:=lH (show isName s=false by simp[isName,h1]);have h0:s=ByteArray.empty:=by
    have:s.size=0:=by omega
    exact jeG this
   subst h0;clear h1;go_enter Tryz.func197,Tryz.ntmps197;go_wp2;go_ret;exact⟨jd HV.out.symm,rfl⟩
end Go.Proofs.YtokdjfoalkmhiaaGreat
namespace Go.Proofs
open Go.Shelf
def Tryz.lays114_ren:Go.Shelf.Ren:=⟨fun | 114=>262 | n=>n,fun | 28=>179 | 3=>3 | 4=>4 | 9=>9 | 20=>20 | 0=>0 | n=>n,fun | n=>n⟩
theorem Tryz.lays114:Go.Proofs.Lays.n114 Tryz.prog Tryz.lays114_ren:={
 mixed:=by kernel_rfl
 f114:=Tryz.func262.trans (congrArg some (by kernel_rfl))
 t0:=Tryz.underlying0
 a0:=Tryz.isAgg0
 z0:=Tryz.sizeOf0
 v0:=Tryz.zeroValue0
 t3:=Tryz.underlying3
 a3:=Tryz.isAgg3
 z3:=Tryz.sizeOf3
 v3:=Tryz.zeroValue3
 t4:=Tryz.underlying4
 a4:=Tryz.isAgg4
 z4:=Tryz.sizeOf4
 v4:=Tryz.zeroValue4
 t9:=Tryz.underlying9
 a9:=Tryz.isAgg9
 z9:=Tryz.sizeOf9
 v9:=Tryz.zeroValue9
 t20:=Tryz.underlying20
 a20:=Tryz.isAgg20
 z20:=Tryz.sizeOf20
 v20:=Tryz.zeroValue20
 t28:=Tryz.underlying179
 a28:=Tryz.isAgg179
 z28:=Tryz.sizeOf179
 v28:=Tryz.zeroValue179 }
open Go.Lib in
theorem Tryz.slices_Min_int (b off n c:Nat) (zs:List Int) (w:World) (hn:0<n) (hz:n≤zs.length) (hbig:n≤9223372036854775807) (hc:∀j,j<zs.length→w.cell? ⟨b,off+j,none⟩=some (.int .i64 (zs.getD j 0))) :
 Calls Tryz.prog 262 #[.slice (some ⟨b,off,none⟩) n c] w fun e w'=>e=.returned (.int .i64 (Lib.minOf (zs.take n)))∧w'=w:=Any.slices_Min_int Tryz.lays114 b off n c zs w hn hz hbig hc
end Go.Proofs
namespace Go.Proofs.YtokdjfoalkmhiaaGreat.Vec
open Go.RowKit
def Xi (v x:Int) (w:World) (e:Ending) (w':World):Prop:=e=.returned (.tuple #[.int .i64 v,.int .i64 x])∧w=w'
def Ans (v x:Int) (w:World) (e:Ending) (w':World):Prop:=e=.returned (.tuple #[.int .i64 v,.int .i64 x])∧Kept w w'
theorem Xi.ans {v x:Int} {w:World} {e:Ending} {w':World} (h:Xi v x w e w'):Ans v x w e w':=by
 obtain⟨rfl,rfl⟩:=h;exact⟨rfl,Kept.refl _⟩
theorem jln (a b:Int) (w:World) (ha:0≤a) (hb:0≤b) (hb':b≤9223372036854775807) (h:9223372036854775807<a+b):Calls Tryz.prog 214 #[.int .i64 a,.int .i64 b] w (Xi 0 5 w):=by
 go_enter Tryz.func214,Tryz.ntmps214;go_wp2;go_ret2
 exact⟨rfl,rfl⟩
theorem jnR (a b:Int) (w:World) (ha:0≤a) (hb:0≤b) (h:a+b≤9223372036854775807):Calls Tryz.prog 214 #[.int .i64 a,.int .i64 b] w (Xi (a+b) 0 w):=by
 go_enter Tryz.func214,Tryz.ntmps214;go_wp2;go_ret2
 exact⟨rfl,rfl⟩
theorem jlP (a b:Int) (w:World) (ha:0≤a) (hb':b≤9223372036854775807) (h:a<b):Calls Tryz.prog 266 #[.int .i64 a,.int .i64 b] w (Xi 0 5 w):=by
 go_enter Tryz.func266,Tryz.ntmps266;go_wp2;go_ret2
 exact⟨rfl,rfl⟩
theorem jnB (a b:Int) (w:World) (hb:0≤b) (ha':a≤9223372036854775807) (h:b≤a):Calls Tryz.prog 266 #[.int .i64 a,.int .i64 b] w (Xi (a-b) 0 w):=by
 go_enter Tryz.func266,Tryz.ntmps266;go_wp2;go_ret2
 exact⟨rfl,rfl⟩
abbrev V:=List (ByteArray×Int)
def nm (l:V) (i:Nat):ByteArray:=(l.getD i (ByteArray.empty,0)).1
def qn (l:V) (i:Nat):Int:=(l.getD i (ByteArray.empty,0)).2
def Jt (l:V):Prop:=∀i,i<l.length→(nm l i).size≤maxLen∧-9223372036854775808≤qn l i∧qn l i≤9223372036854775807
def jw (w:World) (a:Option Addr) (len:Nat) (l:V):Prop :=
 l.length=len∧len≤maxLen∧Jt l ∧
  (len=0∨∃b off,a=some ⟨b,off,none⟩∧b<w.heap.size ∧
    ∀i,i<len→w.cell? ⟨b,off+i*2,none⟩=some (.string (nm l i))∧w.cell? ⟨b,off+i*2+1,none⟩=some (.int .i64 (qn l i)))
theorem jw.kept {w w':World} {a:Option Addr} {len:Nat} {l:V} (h:jw w a len l) (k:Kept w w'):jw w' a len l:=by
 obtain⟨h0,h1,h2,h3⟩:=h;refine⟨h0,h1,h2,h3.imp id ?_⟩;rintro ⟨b,off,ha,hb,hc⟩;exact⟨b,off,ha,Nat.lt_of_lt_of_le hb k.size,fun i hi =>
  ⟨(Below.cell k (p:=⟨b,off+i*2,none⟩) hb).trans (hc i hi).1,(Below.cell k (p:=⟨b,off+i*2+1,none⟩) hb).trans (hc i hi).2⟩⟩
theorem jw.nil (w:World):jw w none 0 []:=⟨rfl,by decide,fun i hi=>absurd hi (by simp),.inl rfl⟩
theorem drop_cons {l:V} {k:Nat} (h:k<l.length):l.drop k=(nm l k,qn l k)::l.drop (k+1):=by
 rw[List.drop_eq_getElem_cons h];have:l.getD k (ByteArray.empty,0)=l[k]:=by simp[List.getD,h]
 simp only[nm,qn,this]
theorem jw.cells {w:World} {b off len:Nat} {l:V} {k:Nat} (h:jw w (some ⟨b,off,none⟩) len l) (hk:k<len) :
 b<w.heap.size∧w.cell? ⟨b,off+k*2,none⟩=some (.string (nm l k))∧w.cell? ⟨b,off+k*2+1,none⟩=some (.int .i64 (qn l k)):=by
 obtain⟨_,_,_,h3⟩:=h;rcases h3 with h3 | ⟨b',off',e,hb,hc⟩
 · omega
 · injection e with e;injection e with e1 e2 e3;subst e1;subst e2;exact⟨hb,hc k hk⟩
theorem jw.form {w:World} {a:Option Addr} {len:Nat} {l:V} (h:jw w a len l):len=0∨∃b off,a=some ⟨b,off,none⟩:=by
 obtain⟨_,_,_,h3⟩:=h;exact h3.imp id fun ⟨b,off,e,_⟩=>⟨b,off,e⟩
def YZ (l:V) (k:Nat):Option ByteArray:=if k=0 then none else some (nm l (k-1))
def jK (prev:Option ByteArray) (s:ByteArray):Bool:=match prev with | none=>false | some p=>leS s p
def jQ:Option ByteArray→V→Int
 | _,[]=>0
 | prev,x::t=>if isName x.1=false then 3 else if x.2≤0 then 1 else if jK prev x.1=true then 13 else jQ (some x.1) t
def jv (l:V):Int:=if 8<l.length then 4 else jQ none l
theorem Yl {l:V} {k:Nat} (h:k=0) (s:ByteArray):jK (YZ l k) s=false:=by unfold YZ;rw[if_pos h];rfl
theorem Ym {l:V} {k:Nat} (h:¬k=0) (s:ByteArray):jK (YZ l k) s=leS s (nm l (k-1)):=by unfold YZ;rw[if_neg h];rfl
theorem YI (l:V) (k:Nat):YZ l (k+1)=some (nm l k):=by unfold YZ;rw[if_neg (by omega)];rfl
theorem YD {l:V} {k:Nat} {p:Option ByteArray} (h:k<l.length) (n1:isName (nm l k)=false):jQ p (l.drop k)=3:=by
 rw[drop_cons h,jQ,if_pos n1]
theorem jhN {l:V} {k:Nat} {p:Option ByteArray} (h:k<l.length) (n1:isName (nm l k)=true) (n2:qn l k≤0):jQ p (l.drop k)=1:=by
 rw[drop_cons h,jQ,if_neg (by rw[n1];decide),if_pos n2]
theorem Xp {l:V} {k:Nat} {p:Option ByteArray} (h:k<l.length) (n1:isName (nm l k)=true) (n2:0<qn l k) (n3:jK p (nm l k)=true):jQ p (l.drop k)=13:=by
 rw[drop_cons h,jQ,if_neg (by rw[n1];decide),if_neg (by omega),if_pos n3]
theorem ZA {l:V} {k:Nat} {p:Option ByteArray} (h:k<l.length) (n1:isName (nm l k)=true) (n2:0<qn l k) (n3:jK p (nm l k)=false):jQ p (l.drop k)=jQ (YZ l (k+1)) (l.drop (k+1)):=by
 rw[drop_cons h,jQ,if_neg (by rw[n1];decide),if_neg (by omega),if_neg (by rw[n3];decide),YI]
theorem jhL {l:V} {k:Nat} {p:Option ByteArray} (h:¬k<l.length):jQ p (l.drop k)=0:=by
 rw[List.drop_of_length_le (by omega),jQ]
theorem YP (a:Option Addr) (len cap:Nat) (l:V) (w:World) (hr:jw w a len l) :
 Calls Tryz.prog 178 #[.slice a len cap] w fun e w'=>e=.returned (.int .i64 (jv l))∧Kept w w':=by
 have hl:=hr.1;have hm:=hr.2.1;unfold maxLen at hm;have hf:=hr.2.2.1;by_cases h8:len≤8
 · have HV:=lH (show jv l=jQ none l by unfold jv;rw[if_neg (by omega)]);rcases hr.form with h0 | ⟨b,off,rfl⟩
   · subst h0;have HE:=lH (show jv l=0 by rw[HV.out];rw[List.eq_nil_of_length_eq_zero hl];rfl);clear hr hl hf;go_enter Tryz.func178,Tryz.ntmps178;go_wp2;refine wp_loop_rounds 1 ?_;rw[rounds_succ];go_wp2;go_ret;exact⟨jb HE.out.symm,Kept.refl _⟩
   · obtain⟨HF,HR,HL⟩:=lH3 hf hr hl;clear hf hr hl;go_enter Tryz.func178,Tryz.ntmps178;go_wp2;go_loopw [3] (fun i wr=>∃k:Nat,k≤len∧i=.int .i64 k∧jQ (YZ l k) (l.drop k)=jQ none l∧Kept w wr) (fun i _=>len-(intOf i).toNat)
     case atStart=>exact⟨0,Nat.zero_le _,rfl,rfl,Kept.refl _⟩
     case round =>
      obtain⟨k,hk,rfl,hrest,hK⟩:=hrel;by_cases hlt:k<len
      · obtain⟨HK,HS,HT⟩:=lH3 hK (HV.out.trans hrest.symm) hrest;obtain⟨hb,c1,c2⟩:=(HR.out.kept hK).cells hlt;clear hK hrest;have hz:(nm l k).size≤maxLen:=(HF.out k (by rw[HL.out];exact hlt)).1;have HI:=lH (show k<l.length by rw[HL.out];exact hlt);by_cases n1:isName (nm l k)=true
        · have N1:=lH n1;by_cases n2:qn l k≤0
          · have N2:=lH n2;go_wp2_with (go_at_call 177;refine(jq _ _ hz).mono ?_;rintro e w' ⟨rfl,rfl⟩)
            go_ret;exact⟨jb (HS.out.trans (jhN HI.out N1.out N2.out)).symm,HK.out⟩
          · have n2:0<qn l k:=by omega
            have N2:=lH n2;by_cases h0:k=0
            · have hd:decide (0<k)=false:=by subst h0;decide
              have HP:=lH (Yl (l:=l) h0 (nm l k));clear h0;go_wp2_with (go_at_call 177;refine(jq _ _ hz).mono ?_;rintro e w' ⟨rfl,rfl⟩)
              go_quiet (fail)
              go_wp2;go_roundw
              case rel=>exact⟨k+1,by omega,by go_num,(ZA HI.out N1.out N2.out HP.out).symm.trans HT.out,HK.out.trans (Kept.drewN _ _)⟩
              case measure=>simp[intOf];omega
            · have hd:decide (0<k)=true:=by simp;omega
              have g1:0≤(k:Int)-1:=by omega
              have g2:(k:Int)-1<(len:Int):=by omega
              have g3:((k:Int)-1).toNat=k-1:=by omega
              have HP:=lH (Ym (l:=l) h0 (nm l k));obtain⟨_,d1,d2⟩:=(HR.out.kept HK.out).cells (show k-1<len by omega);by_cases n3:leS (nm l k) (nm l (k-1))=true
              · have n3':(Op.bytesLess (nm l k).toList (nm l (k-1)).toList||(nm l k).toList==(nm l (k-1)).toList)=true:=n3;have N3:=lH n3;clear n3;go_wp2_with (go_at_call 177;refine(jq _ _ hz).mono ?_;rintro e w' ⟨rfl,rfl⟩)
                go_quiet (fail)
                go_wp2;go_ret;exact⟨jb (HS.out.trans (Xp HI.out N1.out N2.out (HP.out.trans N3.out))).symm,HK.out.trans (Kept.drewN _ _)⟩
              · have n3:leS (nm l k) (nm l (k-1))=false:=by simpa using n3
                have n3':(Op.bytesLess (nm l k).toList (nm l (k-1)).toList||(nm l k).toList==(nm l (k-1)).toList)=false:=n3;have N3:=lH n3;clear n3;go_wp2_with (go_at_call 177;refine(jq _ _ hz).mono ?_;rintro e w' ⟨rfl,rfl⟩)
                go_quiet (fail)
                go_wp2;go_roundw
                case rel=>exact⟨k+1,by omega,by go_num,(ZA HI.out N1.out N2.out (HP.out.trans N3.out)).symm.trans HT.out,HK.out.trans (Kept.drewN _ _)⟩
                case measure=>simp[intOf];omega
        · have n1:isName (nm l k)=false:=by simpa using n1
          have N1:=lH n1;go_wp2_with (go_at_call 177;refine(jq _ _ hz).mono ?_;rintro e w' ⟨rfl,rfl⟩)
          go_ret;exact⟨jb (HS.out.trans (YD HI.out N1.out)).symm,HK.out⟩
      · obtain⟨HK,HS,HI⟩:=lH3 hK (HV.out.trans hrest.symm) (show ¬k<l.length by rw[HL.out];exact hlt);clear hK hrest;go_wp2;go_ret;exact⟨jb (HS.out.trans (jhL HI.out)).symm,HK.out⟩
 · have HV:=lH (show jv l=4 by unfold jv;rw[if_pos (by omega)]);have h9:8<len:=by omega
   clear h8 hr hl hf;go_enter Tryz.func178,Tryz.ntmps178;go_wp2;go_ret;exact⟨jb HV.out.symm,Kept.refl _⟩
theorem jbx (a:Option Addr) (len cap:Nat) (w:World) (h:len≤8) :
 Calls Tryz.prog 245 #[.slice a len cap] w fun e w'=>e=.returned (.tuple #[])∧w=w':=by
 go_enter Tryz.func245,Tryz.ntmps245;go_wp2;go_end0
 exact⟨rfl,rfl⟩
theorem jcc (a:Option Addr) (len cap:Nat) (w:World) (h:8<len) (hm:len≤9223372036854775807) :
 Calls Tryz.prog 245 #[.slice a len cap] w fun e w'=>e=.panicked [zx 4]∧w=w':=by
 go_enter Tryz.func245,Tryz.ntmps245;go_wp2;exact⟨rfl,rfl,rfl⟩
def Chk (l:V) (v:Value) (w:World) (e:Ending) (w':World):Prop :=
 (jv l=0→e=.returned v)∧(jv l≠0→e=.panicked [zx (jv l)])∧Kept w w'
theorem Chk.good {l:V} {v:Value} {w w':World} (h:jv l=0) (k:Kept w w'):Chk l v w (.returned v) w':=⟨fun _=>rfl,fun g=>absurd h g,k⟩
theorem Chk.bad {l:V} {v:Value} {w w':World} {c:Int} (h:jv l=c) (hc:c≠0) (k:Kept w w'):Chk l v w (.panicked [zx c]) w':=⟨fun g=>absurd (h.symm.trans g) hc,fun _=>by rw[h],k⟩
theorem zY (a:Option Addr) (len cap:Nat) (l:V) (w:World) (hr:jw w a len l) :
 Calls Tryz.prog 233 #[.slice a len cap] w (Chk l (.slice a len cap) w):=by
 have hl:=hr.1;have hm:=hr.2.1;unfold maxLen at hm;have hm':len≤9223372036854775807:=by omega
 have hf:=hr.2.2.1;by_cases h8:len≤8
 · have HV:=lH (show jv l=jQ none l by unfold jv;rw[if_neg (by omega)]);rcases hr.form with h0 | ⟨b,off,rfl⟩
   · subst h0;have HE:=lH (show jv l=0 by rw[HV.out];rw[List.eq_nil_of_length_eq_zero hl];rfl);clear hr hl hf;go_enter Tryz.func233,Tryz.ntmps233;go_wp2_with (go_at_call 245;refine(jbx _ _ _ _ (by omega)).mono ?_;rintro e w' ⟨rfl,rfl⟩)
     refine wp_loop_rounds 1 ?_;rw[rounds_succ];go_wp2;go_ret;exact Chk.good HE.out (Kept.refl _)
   · obtain⟨HF,HR,HL⟩:=lH3 hf hr hl;clear hf hr hl;go_enter Tryz.func233,Tryz.ntmps233;go_wp2_with (go_at_call 245;refine(jbx _ _ _ _ h8).mono ?_;rintro e w' ⟨rfl,rfl⟩)
     go_loopw [9] (fun i wr=>∃k:Nat,k≤len∧i=.int .i64 k∧jQ (YZ l k) (l.drop k)=jQ none l∧Kept w wr) (fun i _=>len-(intOf i).toNat)
     case atStart=>exact⟨0,Nat.zero_le _,rfl,rfl,Kept.refl _⟩
     case round =>
      obtain⟨k,hk,rfl,hrest,hK⟩:=hrel;by_cases hlt:k<len
      · obtain⟨HK,HS,HT⟩:=lH3 hK (HV.out.trans hrest.symm) hrest;obtain⟨hb,c1,c2⟩:=(HR.out.kept hK).cells hlt;clear hK hrest;have hz:(nm l k).size≤maxLen:=(HF.out k (by rw[HL.out];exact hlt)).1;have HI:=lH (show k<l.length by rw[HL.out];exact hlt);by_cases n1:isName (nm l k)=true
        · have N1:=lH n1;by_cases n2:qn l k≤0
          · have N2:=lH n2;go_wp2_with (go_at_call 197;refine(zg _ _ hz).mono ?_;rintro e w' ⟨rfl,rfl⟩)
            exact⟨rfl,Chk.bad (HS.out.trans (jhN HI.out N1.out N2.out)) (by decide) (HK.out.trans (ja _ _))⟩
          · have n2:0<qn l k:=by omega
            have N2:=lH n2;by_cases h0:k=0
            · have hd:decide (0<k)=false:=by subst h0;decide
              have HP:=lH (Yl (l:=l) h0 (nm l k));clear h0;go_wp2_with (go_at_call 197;refine(zg _ _ hz).mono ?_;rintro e w' ⟨rfl,rfl⟩)
              go_quiet (fail)
              go_wp2;go_roundw
              case rel=>exact⟨k+1,by omega,by go_num,(ZA HI.out N1.out N2.out HP.out).symm.trans HT.out,(HK.out.trans (JF _ _ _))⟩
              case measure=>simp[intOf];omega
            · have hd:decide (0<k)=true:=by simp;omega
              have g1:0≤(k:Int)-1:=by omega
              have g2:(k:Int)-1<(len:Int):=by omega
              have g3:((k:Int)-1).toNat=k-1:=by omega
              have HP:=lH (Ym (l:=l) h0 (nm l k));obtain⟨_,d1,d2⟩:=(HR.out.kept HK.out).cells (show k-1<len by omega);by_cases n3:leS (nm l k) (nm l (k-1))=true
              · have n3':(Op.bytesLess (nm l k).toList (nm l (k-1)).toList||(nm l k).toList==(nm l (k-1)).toList)=true:=n3;have N3:=lH n3;clear n3;go_wp2_with (go_at_call 197;refine(zg _ _ hz).mono ?_;rintro e w' ⟨rfl,rfl⟩)
                go_quiet (fail)
                go_wp2;exact⟨rfl,Chk.bad (HS.out.trans (Xp HI.out N1.out N2.out (HP.out.trans N3.out))) (by decide) (HK.out.trans (JF _ _ _))⟩
              · have n3:leS (nm l k) (nm l (k-1))=false:=by simpa using n3
                have n3':(Op.bytesLess (nm l k).toList (nm l (k-1)).toList||(nm l k).toList==(nm l (k-1)).toList)=false:=n3;have N3:=lH n3;clear n3;go_wp2_with (go_at_call 197;refine(zg _ _ hz).mono ?_;rintro e w' ⟨rfl,rfl⟩)
                go_quiet (fail)
                go_wp2;go_roundw
                case rel=>exact⟨k+1,by omega,by go_num,(ZA HI.out N1.out N2.out (HP.out.trans N3.out)).symm.trans HT.out,(HK.out.trans (JF _ _ _))⟩
                case measure=>simp[intOf];omega
        · have n1:isName (nm l k)=false:=by simpa using n1
          have N1:=lH n1;go_wp2_with (go_at_call 197;refine(zg _ _ hz).mono ?_;rintro e w' ⟨rfl,rfl⟩)
          exact⟨rfl,Chk.bad (HS.out.trans (YD HI.out N1.out)) (by decide) (HK.out.trans (ja _ _))⟩
      · obtain⟨HK,HS,HI⟩:=lH3 hK (HV.out.trans hrest.symm) (show ¬k<l.length by rw[HL.out];exact hlt);clear hK hrest;go_wp2;go_ret;exact Chk.good (HS.out.trans (jhL HI.out)) HK.out
 · have HV:=lH (show jv l=4 by unfold jv;rw[if_pos (by omega)]);have h9:8<len:=by omega
   clear h8 hr hl hf hm;go_enter Tryz.func233,Tryz.ntmps233;go_wp2_with (go_at_call 245;refine(jcc _ _ _ _ h9 hm').mono ?_;rintro e w' ⟨rfl,rfl⟩)
   exact⟨rfl,Chk.bad HV.out (by decide) (Kept.refl _)⟩
def jh:V→ByteArray→Int
 | [],_=>0
 | x::t,n=>if eqS x.1 n=true then x.2 else jh t n
theorem jfM {l:V} {k:Nat} {n:ByteArray} (h:k<l.length) (e:eqS (nm l k) n=true):jh (l.drop k) n=qn l k:=by rw[drop_cons h,jh,if_pos e]
theorem jgv {l:V} {k:Nat} {n:ByteArray} (h:k<l.length) (e:eqS (nm l k) n=false):jh (l.drop k) n=jh (l.drop (k+1)) n:=by rw[drop_cons h,jh,if_neg (by rw[e];decide)]
theorem jhJ {l:V} {k:Nat} {n:ByteArray} (h:¬k<l.length):jh (l.drop k) n=0:=by rw[List.drop_of_length_le (by omega),jh]
theorem XD (a:Option Addr) (len cap:Nat) (l:V) (n:ByteArray) (w:World) (hr:jw w a len l) :
 Calls Tryz.prog 160 #[.slice a len cap,.string n] w fun e w'=>e=.returned (.int .i64 (jh l n))∧Kept w w':=by
 have hl:=hr.1;have hm:=hr.2.1;unfold maxLen at hm;rcases hr.form with h0 | ⟨b,off,rfl⟩
 · subst h0;have HE:=lH (show jh l n=0 by rw[List.eq_nil_of_length_eq_zero hl];rfl);clear hr hl;go_enter Tryz.func160,Tryz.ntmps160;go_wp2;refine wp_loop_rounds 1 ?_;rw[rounds_succ];go_wp2;go_ret;exact⟨jb HE.out.symm,Kept.refl _⟩
 · have HR:=lH hr;have HL:=lH hl;clear hr hl;go_enter Tryz.func160,Tryz.ntmps160;go_wp2;go_loopw [9] (fun i wr=>∃k:Nat,k≤len∧i=.int .i64 k∧jh (l.drop k) n=jh l n∧Kept w wr) (fun i _=>len-(intOf i).toNat)
   case atStart=>exact⟨0,Nat.zero_le _,rfl,rfl,Kept.refl _⟩
   case round =>
    obtain⟨k,hk,rfl,hrest,hK⟩:=hrel;have HK:=lH hK;have HS:=lH hrest;by_cases hlt:k<len
    · obtain⟨hb,c1,c2⟩:=(HR.out.kept hK).cells hlt;clear hK hrest;have HI:=lH (show k<l.length by rw[HL.out];exact hlt);by_cases e:eqS (nm l k) n=true
      · have E:=lH e;have e':((nm l k).toList==n.toList)=true:=e;clear e;go_wp2;go_ret;exact⟨jb (HS.out.symm.trans (jfM HI.out E.out)).symm,HK.out.trans (ja _ _)⟩
      · have e:eqS (nm l k) n=false:=by simpa using e
        have E:=lH e;have e':((nm l k).toList==n.toList)=false:=e;clear e;go_wp2;go_roundw
        case rel=>exact⟨k+1,by omega,by go_num,(jgv HI.out E.out).symm.trans HS.out,HK.out.trans (ja _ _)⟩
        case measure=>simp[intOf];omega
    · have HI:=lH (show ¬k<l.length by rw[HL.out];exact hlt);clear hK hrest;go_wp2;go_ret;exact⟨jb (HS.out.symm.trans (jhJ HI.out)).symm,HK.out⟩
def Zb:V→Bool
 | []=>true
 | x::t=>decide (x.1.size≤50)&&Zb t
def YN (l:V):Bool:=decide (l.length≤20)&&Zb l
theorem jdK (a:Option Addr) (len cap:Nat) (l:V) (w:World) (hr:jw w a len l) :
 Calls Tryz.prog 120 #[.slice a len cap] w fun e w'=>e=.returned (.bool (YN l))∧w=w':=by
 have hl:=hr.1;have hm:=hr.2.1;have hf:=hr.2.2.1;unfold maxLen at hm;by_cases h20:len≤20
 · have HV:=lH (show YN l=Zb l by unfold YN;rw[decide_eq_true (by omega)];rfl);rcases hr.form with h0 | ⟨b,off,rfl⟩
   · subst h0;have HE:=lH (show YN l=true by rw[HV.out,List.eq_nil_of_length_eq_zero hl];rfl);clear hr hl hf;go_enter Tryz.func120,Tryz.ntmps120;go_wp2;refine wp_loop_rounds 1 ?_;rw[rounds_succ];go_wp2;go_ret;exact⟨jd HE.out.symm,rfl⟩
   · obtain⟨HR,HL,HF⟩:=lH3 hr hl hf;clear hr hl hf;go_enter Tryz.func120,Tryz.ntmps120;go_wp2;go_loop [3] (fun i=>∃k:Nat,k≤len∧i=.int .i64 k∧Zb (l.drop k)=Zb l) (fun i=>len-(intOf i).toNat)
     case atStart=>exact⟨0,Nat.zero_le _,rfl,rfl⟩
     case round =>
      obtain⟨k,hk,rfl,hrest⟩:=hrel;have HS:=lH hrest;clear hrest;by_cases hlt:k<len
      · obtain⟨hb,c1,c2⟩:=HR.out.cells hlt;have HI:=lH (show k<l.length by rw[HL.out];exact hlt);have hz:=(HF.out k HI.out).1;unfold maxLen at hz;by_cases e:(nm l k).size≤50
        · have E:=lH (show Zb (l.drop k)=Zb (l.drop (k+1)) by rw[drop_cons HI.out,Zb,decide_eq_true e];rfl);go_wp2;go_round
          case rel=>exact⟨k+1,by omega,by go_num,E.out.symm.trans HS.out⟩
          case measure=>simp[intOf];omega
        · have E:=lH (show Zb (l.drop k)=false by rw[drop_cons HI.out,Zb,decide_eq_false e];rfl);have e':50<(nm l k).size:=by omega
          clear e;go_wp2;go_ret;exact⟨jd (HV.out.trans (HS.out.symm.trans E.out)).symm,rfl⟩
      · have HI:=lH (show Zb (l.drop k)=true by rw[List.drop_of_length_le (by rw[HL.out];omega),Zb]);go_wp2;go_ret;exact⟨jd (HV.out.trans (HS.out.symm.trans HI.out)).symm,rfl⟩
 · have HV:=lH (show YN l=false by unfold YN;rw[decide_eq_false (by omega)];rfl);have h9:20<len:=by omega
   clear h20 hr hl hf;go_enter Tryz.func120,Tryz.ntmps120;go_wp2;go_ret;exact⟨jd HV.out.symm,rfl⟩
def jW:V→V→Bool
 | [],[]=>true
 | x::s,y::t=>(eqS x.1 y.1&&decide (x.2=y.2))&&jW s t
 | _,_=>false
theorem same_length:∀{l l':V},l.length≠l'.length→jW l l'=false
 | [],[],h=>absurd rfl h
 | [],_::_,_=>rfl
 | _::_,[],_=>rfl
 | x::s,y::t,h=>by rw[jW,same_length (l:=s) (l':=t) (fun e=>h (by simp[e])),Bool.and_false]
theorem jk1 (a a':Option Addr) (len cap len' cap':Nat) (l l':V) (w:World) (hr:jw w a len l) (hr':jw w a' len' l') :
 Calls Tryz.prog 163 #[.slice a len cap,.slice a' len' cap'] w fun e w'=>e=.returned (.bool (jW l l'))∧Kept w w':=by
 have hl:=hr.1;have hm:=hr.2.1;have hl':=hr'.1;have hm':=hr'.2.1;unfold maxLen at hm hm';by_cases hll:len=len'
 · subst hll;rcases hr.form with h0 | ⟨b,off,rfl⟩
   · subst h0;have HE:=lH (show jW l l'=true by rw[List.eq_nil_of_length_eq_zero hl,List.eq_nil_of_length_eq_zero hl'];rfl);clear hr hl hr' hl';go_enter Tryz.func163,Tryz.ntmps163;go_wp2;refine wp_loop_rounds 1 ?_;rw[rounds_succ];go_wp2;go_ret;exact⟨jd HE.out.symm,Kept.refl _⟩
   · rcases hr'.form with h0 | ⟨b',off',rfl⟩
     · subst h0;have HE:=lH (show jW l l'=true by rw[List.eq_nil_of_length_eq_zero hl,List.eq_nil_of_length_eq_zero hl'];rfl);clear hr hl hr' hl';go_enter Tryz.func163,Tryz.ntmps163;go_wp2;refine wp_loop_rounds 1 ?_;rw[rounds_succ];go_wp2;go_ret;exact⟨jd HE.out.symm,Kept.refl _⟩
     · have HR:=lH hr;have HL:=lH hl;have HR':=lH hr';have HL':=lH hl';clear hr hl hr' hl';go_enter Tryz.func163,Tryz.ntmps163;go_wp2;go_loopw [13] (fun i wr=>∃k:Nat,k≤len∧i=.int .i64 k∧jW (l.drop k) (l'.drop k)=jW l l'∧Kept w wr) (fun i _=>len-(intOf i).toNat)
       case atStart=>exact⟨0,Nat.zero_le _,rfl,rfl,Kept.refl _⟩
       case round =>
        obtain⟨k,hk,rfl,hrest,hK⟩:=hrel;have HS:=lH hrest;have HK:=lH hK;by_cases hlt:k<len
        · obtain⟨hb,c1,c2⟩:=(HR.out.kept hK).cells hlt;obtain⟨hb',d1,d2⟩:=(HR'.out.kept hK).cells hlt;clear hrest hK;have HI:=lH (show k<l.length by rw[HL.out];exact hlt);have HI':=lH (show k<l'.length by rw[HL'.out];exact hlt);by_cases e1:eqS (nm l k) (nm l' k)=true
          · have E1:=lH e1;have e1':((nm l k).toList==(nm l' k).toList)=true:=e1;clear e1;by_cases e2:qn l k=qn l' k
            · have E:=lH (show jW (l.drop k) (l'.drop k)=jW (l.drop (k+1)) (l'.drop (k+1)) by
               rw[drop_cons HI.out,drop_cons HI'.out,jW,E1.out,decide_eq_true e2];rfl)
              have e2':(qn l k==qn l' k)=true:=by simpa using e2
              clear e2;go_wp2;go_quiet (fail)
              go_wp2;go_roundw
              case rel=>exact⟨k+1,by omega,by go_num,E.out.symm.trans HS.out,HK.out.trans (Kept.drewN _ _)⟩
              case measure=>simp[intOf];omega
            · have E:=lH (show jW (l.drop k) (l'.drop k)=false by
               rw[drop_cons HI.out,drop_cons HI'.out,jW,E1.out,decide_eq_false e2];rfl)
              have e2':(qn l k==qn l' k)=false:=by simpa using e2
              clear e2;go_wp2;go_quiet (fail)
              go_wp2;go_ret;exact⟨jd (HS.out.symm.trans E.out).symm,HK.out.trans (Kept.drewN _ _)⟩
          · have e1:eqS (nm l k) (nm l' k)=false:=by simpa using e1
            have E:=lH (show jW (l.drop k) (l'.drop k)=false by
             rw[drop_cons HI.out,drop_cons HI'.out,jW,e1];rfl)
            have e1':((nm l k).toList==(nm l' k).toList)=false:=e1;clear e1;go_wp2;go_quiet (fail)
            go_wp2;go_ret;exact⟨jd (HS.out.symm.trans E.out).symm,HK.out.trans (Kept.drewN _ _)⟩
        · have E:=lH (show jW (l.drop k) (l'.drop k)=true by
           rw[List.drop_of_length_le (by rw[HL.out];omega),List.drop_of_length_le (by rw[HL'.out];omega),jW])
          clear hrest hK;go_wp2;go_ret;exact⟨jd (HS.out.symm.trans E.out).symm,HK.out⟩
 · have HV:=lH (show jW l l'=false from same_length (by omega));clear hr hl hr' hl';have hn:((len:Int) != (len':Int))=true:=by
    simp only[bne_iff_ne,ne_eq];omega
   clear hll;go_enter Tryz.func163,Tryz.ntmps163;go_wp2;go_ret;exact⟨jd HV.out.symm,Kept.refl _⟩
theorem jmf (a a':Option Addr) (len cap len' cap':Nat) (l l':V) (w:World) (hr:jw w a len l) (hr':jw w a' len' l') :
 Calls Tryz.prog 97 #[.slice a len cap,.slice a' len' cap'] w fun e w'=>e=.returned (.bool (jW l l'))∧Kept w w':=by
 have H:=lH hr;have H':=lH hr';clear hr hr';go_enter Tryz.func97,Tryz.ntmps97;go_wp2_with fail
 refine(jk1 _ _ _ _ _ _ l l' _ H.out H'.out).mono ?_;rintro e w' ⟨rfl,hk⟩;go_wp2;go_ret;exact⟨rfl,hk⟩
theorem Zx {w W:World} {p q:Prop} (h:p∧q∧Kept w W):Kept w W:=h.2.2
theorem X7 {w W W':World} {a b:Addr} {x y:Value} (h:W.cell? a=some x∧W.cell? b=some y∧Kept w W) (k:Kept W W'):W'.cell? a=some x∧W'.cell? b=some y∧Kept w W' :=
 ⟨cell_later k h.1,cell_later k h.2.1,h.2.2.trans k⟩
def jB (have_:V):V→Bool
 | []=>true
 | x::t=>decide (x.2≤jh have_ x.1)&&jB have_ t
theorem jco (a a':Option Addr) (len cap len' cap':Nat) (l l':V) (w:World) (hr:jw w a len l) (hr':jw w a' len' l') :
 Calls Tryz.prog 94 #[.slice a len cap,.slice a' len' cap'] w fun e w'=>e=.returned (.bool (jB l' l))∧Kept w w':=by
 have hl:=hr.1;have hm:=hr.2.1;unfold maxLen at hm;rcases hr.form with h0 | ⟨b,off,rfl⟩
 · subst h0;have HE:=lH (show jB l' l=true by rw[List.eq_nil_of_length_eq_zero hl];rfl);clear hr hl hr';go_enter Tryz.func94,Tryz.ntmps94;go_wp2;refine wp_loop_rounds 1 ?_;rw[rounds_succ];go_wp2;go_ret;exact⟨jd HE.out.symm,Kept.refl _⟩
 · have HR:=lH hr;have HL:=lH hl;have HR':=lH hr';clear hr hl hr';go_enter Tryz.func94,Tryz.ntmps94;go_wp2;go_loopw [9] (fun i wr=>∃k:Nat,k≤len∧i=.int .i64 k∧jB l' (l.drop k)=jB l' l∧Kept w wr) (fun i _=>len-(intOf i).toNat)
   case atStart=>exact⟨0,Nat.zero_le _,rfl,rfl,Kept.refl _⟩
   case round =>
    obtain⟨k,hk,rfl,hrest,hK⟩:=hrel;have HS:=lH hrest;have HK:=lH hK;by_cases hlt:k<len
    · obtain⟨hb,c1,c2⟩:=(HR.out.kept hK).cells hlt;clear hrest hK;have HI:=lH (show k<l.length by rw[HL.out];exact hlt);by_cases e:qn l k≤jh l' (nm l k)
      · have E:=lH (show jB l' (l.drop k)=jB l' (l.drop (k+1)) by rw[drop_cons HI.out,jB,decide_eq_true e];rfl);go_wp2;have f1:((wr.alloc (.cells #[.string (nm l k),.int .i64 (qn l k)] 100)).drew).cell? ⟨wr.heap.size,0,none⟩=some (.string (nm l k)):=by go_simp
        have f2:((wr.alloc (.cells #[.string (nm l k),.int .i64 (qn l k)] 100)).drew).cell? ⟨wr.heap.size,1,none⟩=some (.int .i64 (qn l k)):=by go_simp
        have f3:Kept w ((wr.alloc (.cells #[.string (nm l k),.int .i64 (qn l k)] 100)).drew):=(HK.out.trans (ja _ _)).trans (Kept.drewN _ 1)
        go_region_held3 (fun W=>W.cell? ⟨wr.heap.size,0,none⟩=some (.string (nm l k))∧W.cell? ⟨wr.heap.size,1,none⟩=some (.int .i64 (qn l k))∧Kept w W) (first | exact⟨f1,f2,f3⟩ | assumption | exact X7 (by assumption) (by assumption))
         (first | (go_at_call 160;refine(XD _ _ _ l' _ _ (HR'.out.kept (Zx (by assumption)))).mono ?_;rintro e W2 ⟨rfl,hk2⟩))
        all_goals
         go_wp2;go_roundw
         case rel=>exact⟨k+1,by omega,by go_num,E.out.symm.trans HS.out,Zx (by assumption)⟩
         case measure=>simp[intOf];omega
      · have E:=lH (show jB l' (l.drop k)=false by rw[drop_cons HI.out,jB,decide_eq_false e];rfl);have e':jh l' (nm l k)<qn l k:=by omega
        clear e;go_wp2;have f1:((wr.alloc (.cells #[.string (nm l k),.int .i64 (qn l k)] 100)).drew).cell? ⟨wr.heap.size,0,none⟩=some (.string (nm l k)):=by go_simp
        have f2:((wr.alloc (.cells #[.string (nm l k),.int .i64 (qn l k)] 100)).drew).cell? ⟨wr.heap.size,1,none⟩=some (.int .i64 (qn l k)):=by go_simp
        have f3:Kept w ((wr.alloc (.cells #[.string (nm l k),.int .i64 (qn l k)] 100)).drew):=(HK.out.trans (ja _ _)).trans (Kept.drewN _ 1)
        go_region_held3 (fun W=>W.cell? ⟨wr.heap.size,0,none⟩=some (.string (nm l k))∧W.cell? ⟨wr.heap.size,1,none⟩=some (.int .i64 (qn l k))∧Kept w W) (first | exact⟨f1,f2,f3⟩ | assumption | exact X7 (by assumption) (by assumption))
         (first | (go_at_call 160;refine(XD _ _ _ l' _ _ (HR'.out.kept (Zx (by assumption)))).mono ?_;rintro e W2 ⟨rfl,hk2⟩))
        all_goals
         go_wp2;go_ret;exact⟨jd (HS.out.symm.trans E.out).symm,Zx (by assumption)⟩
    · have E:=lH (show jB l' (l.drop k)=true by rw[List.drop_of_length_le (by rw[HL.out];omega),jB]);clear hrest hK;go_wp2;go_ret;exact⟨jd (HS.out.symm.trans E.out).symm,HK.out⟩
def cellsOf:V→List Value
 | []=>[]
 | x::t=>.string x.1::.int .i64 x.2::cellsOf t
theorem Y2:∀l:V,(cellsOf l).length=l.length*2
 | []=>rfl
 | x::t=>by simp only[cellsOf,List.length_cons,Y2 t];omega
theorem Yg:∀l m:V,cellsOf (l++m)=cellsOf l++cellsOf m
 | [],_=>rfl
 | x::t,m=>by simp only[List.cons_append,cellsOf,Yg t m]
theorem jmL (x:ByteArray×Int) (t:V):nm (x::t) 0=x.1:=rfl
theorem jhX (x:ByteArray×Int) (t:V) (i:Nat):nm (x::t) (i+1)=nm t i:=rfl
theorem jmY (x:ByteArray×Int) (t:V):qn (x::t) 0=x.2:=rfl
theorem jhR (x:ByteArray×Int) (t:V) (i:Nat):qn (x::t) (i+1)=qn t i:=rfl
theorem jat:∀(l:V) (i:Nat),i<l.length→(cellsOf l)[i*2]?=some (.string (nm l i))∧(cellsOf l)[i*2+1]?=some (.int .i64 (qn l i))
 | [],i,h=>absurd h (by simp)
 | x::t,0,_=>⟨rfl,rfl⟩
 | x::t,i+1,h=>by
  have:=jat t i (by simpa using h);rw[jhX,jhR,show (i+1)*2=i*2+1+1 from by omega];exact this
theorem Yn:∀(l:V) (u:Value),u ∈ cellsOf l→u.oneCell'=true
 | x::t,u,h=>by
  simp only[cellsOf,List.mem_cons] at h;rcases h with rfl | rfl | h
  · rfl
  · rfl
  · exact Yn t u h
theorem Jt.cons {x:ByteArray×Int} {t:V}:Jt (x::t)↔(x.1.size≤maxLen∧-9223372036854775808≤x.2∧x.2≤9223372036854775807)∧Jt t:=by
 constructor
 · intro h;exact⟨h 0 (by simp),fun i hi=>h (i+1) (by simpa using hi)⟩
 · rintro ⟨h0,h⟩ i hi
   cases i with
   | zero=>exact h0
   | succ i=>exact h i (by simpa using hi)
theorem Jt.nil:Jt []:=fun i hi=>absurd hi (by simp)
theorem Jt.snoc:∀{l:V} {s:ByteArray} {n:Int},Jt l→s.size≤maxLen→-9223372036854775808≤n→n≤9223372036854775807→Jt (l++[(s,n)])
 | [],s,n,_,h1,h2,h3=>Jt.cons.2 ⟨⟨h1,h2,h3⟩,Jt.nil⟩
 | x::t,s,n,h,h1,h2,h3=>by
  rw[Jt.cons] at h;exact Jt.cons.2 ⟨h.1,h.2.snoc h1 h2 h3⟩
def jT (e:TypeId) (w:World) (base:Nat) (v:Value) (l:V):Prop:=w.ownsRow base e 2 v l.length (cellsOf l)∧Jt l
theorem jT.nil (e:TypeId) (w:World) (base:Nat):jT e w base (.slice none 0 0) []:=⟨World.ownsRow_nil w base e 2,Jt.nil⟩
theorem jT.at_ {e:TypeId} {w:World} {base:Nat} {v:Value} {l:V} (h:jT e w base v l) :
 ∃a cap,v=.slice a l.length cap∧l.length≤cap∧cap≤maxLen∧jw w a l.length l:=by
 obtain⟨h,hf⟩:=h;have h':=h;obtain⟨_,h1⟩:=h;rcases h1 with ⟨rfl,h0⟩ | ⟨g,cap,cur,rfl,hbg,hg,hn,hm,hs,ht⟩
 · have:l=[]:=List.eq_nil_of_length_eq_zero h0;subst this;exact⟨none,0,rfl,Nat.le_refl _,by decide,jw.nil w⟩
 · refine⟨_,cap,rfl,hn,hm,rfl,Nat.le_trans hn hm,hf,.inr ⟨g,0,rfl,?_,fun i hi=>?_⟩⟩
   · rcases Nat.lt_or_ge g w.heap.size with hlt | hge
     · exact hlt
     · rw[Array.getElem?_eq_none hge] at hg;cases hg
   · have c:=h'.cells (g:=g) rfl;have d:=jat l i hi;have c1:=c _ _ d.1;have c2:=c _ _ d.2;constructor
     · rw[←c1];congr 1;unfold Addr.add;split<;>simp_all
     · rw[←c2];congr 1
theorem jT.kept {e:TypeId} {w w':World} {base:Nat} {v:Value} {l:V} (h:jT e w base v l) (k:Kept w w'):jT e w' base v l:=by
 obtain⟨⟨h0,h1⟩,hf⟩:=h;refine⟨⟨h0,h1.imp id ?_⟩,hf⟩;rintro ⟨g,cap,cur,rfl,hbg,hg,hn,hm,hs,ht⟩;refine⟨g,cap,cur,rfl,hbg,?_,hn,hm,hs,ht⟩;have hlt:g<w.heap.size:=by
  rcases Nat.lt_or_ge g w.heap.size with hlt | hge
  · exact hlt
  · rw[Array.getElem?_eq_none hge] at hg;cases hg
 exact(k.block g hlt).trans hg
theorem jm1:(Tryz.prog.info? 100).map (fun i=>(i.zero,i.size,i.bytes))=some (some (.agg #[.string ByteArray.empty,.int .i64 0]),2,24):=by kernel_rfl
def jnP (base:Nat) (l:V) (w:World) (e:Ending) (w':World):Prop:=∃v,e=.returned v∧jT 100 w' base v l∧Below base w w'
theorem jf7 (w:World) (s:ByteArray) (n:Int) (T:TypeId):∀j u,[Value.string s,.int .i64 n][j]?=some u →
 (w.alloc (.cells #[.string s,.int .i64 n] T)).cell? ((⟨w.heap.size,0,none⟩:Addr).add j)=some u :=
 World.news_of_block (cs:=#[.string s,.int .i64 n]) (t:=T) (fr:=(0,0)) (w.alloc_heap_new _)
theorem jd1 (v:Value) (s:ByteArray) (w:World) :
 Calls Tryz.prog 243 #[v,.string s,.int .i64 0] w fun e w'=>e=.returned v∧w=w':=by
 go_enter Tryz.func243,Tryz.ntmps243;go_wp2;go_ret;exact⟨rfl,rfl⟩
theorem jd4 (v:Value) (s:ByteArray) (n:Int) (base:Nat) (l:V) (w:World) (h:jT 100 w base v l) (hn:n≠0) (hs:s.size≤maxLen) (h1:-9223372036854775808≤n) (h2:n≤9223372036854775807)
 (hl:l.length≤1000000) (hb:base≤w.heap.size) :
 Calls Tryz.prog 243 #[v,.string s,.int .i64 n] w (jnP base (l++[(s,n)]) w):=by
 have h3:(n==0)=false:=by simpa using hn
 clear hn;obtain⟨i0,hi,hz0,hz1,hz2⟩:=info_parts jm1;obtain⟨hown,hf⟩:=h;have HF:=lH (hf.snoc hs h1 h2);clear hf hs;go_enter Tryz.func243,Tryz.ntmps243;go_wp2_with (at_builtin;refine wpList_append_lies _ rfl (.tmp 10) (.tmp 14) _ rfl base 100 i0 _ 2 24 Tryz.underlying37 hi hz0 hz1 hz2 rfl (by decide) v l.length (cellsOf l) rfl (hown.alloc _) ⟨w.heap.size,0,none⟩ 1 1 [.string s,.int .i64 n] rfl rfl (jf7 _ _ _ _) (Yn [(s,n)]) (by decide) (by unfold maxLen;omega) (by omega) (by rw[World.size_alloc];omega) (w.heap.size+1) (World.size_alloc _ _) ?_;intro g cap w1 hown1 hgrow hg hlt;refine Hid.out ?_)
 refine lH ?_;go_wp2;go_ret;refine⟨_,rfl,⟨?_,HF.out⟩,((Below.refl _ w).alloc hb _).grown hgrow (by rw[World.size_alloc];omega) (fun k hk=>?_)⟩
 · rw[List.length_append,Yg];exact hown1
 · exact(hown.lt k hk).1
def jr:V→ByteArray→Int×V
 | [],_=>(0,[])
 | x::t,n=>if eqS x.1 n=true then (x.2,t) else (0,x::t)
def jm:V→V→ByteArray
 | [],[]=>ByteArray.empty
 | [],y::_=>y.1
 | x::_,[]=>x.1
 | x::_,y::_=>if ltS y.1 x.1=true then y.1 else x.1
def Reads (w:World) (v:Value) (l:V):Prop:=∃a cap,v=.slice a l.length cap∧l.length≤cap∧cap≤maxLen∧jw w a l.length l
theorem Reads.kept {w w':World} {v:Value} {l:V} (h:Reads w v l) (k:Kept w w'):Reads w' v l:=by
 obtain⟨a,cap,e,h1,h2,h3⟩:=h;exact⟨a,cap,e,h1,h2,h3.kept k⟩
theorem jff (n:Int) (w:World):Calls Tryz.prog 244 #[.int .i64 n,.int .i64 0] w fun e w'=>e=.returned (.int .i64 n)∧w=w':=by
 go_enter Tryz.func244,Tryz.ntmps244;go_wp2;go_ret;exact⟨rfl,rfl⟩
theorem jdU (n x:Int) (w:World) (h:x≠0):Calls Tryz.prog 244 #[.int .i64 n,.int .i64 x] w fun e w'=>e=.panicked [zx x]∧w=w':=by
 have h3:(x != 0)=true:=by simpa using h
 clear h;go_enter Tryz.func244,Tryz.ntmps244;go_wp2;exact⟨rfl,rfl,rfl⟩
theorem jw.first {w:World} {b off len:Nat} {x:ByteArray×Int} {t:V} (h:jw w (some ⟨b,off,none⟩) len (x::t)) :
 b<w.heap.size∧w.cell? ⟨b,off,none⟩=some (.string x.1)∧w.cell? ⟨b,off+1,none⟩=some (.int .i64 x.2):=by
 have hl:0<len:=by have:=h.1;simp only[List.length_cons] at this;omega
 have:=h.cells hl;simpa [jmL,jmY] using this
theorem jbj (a a':Option Addr) (len cap len' cap':Nat) (l l':V) (w:World) (hr:jw w a len l) (hr':jw w a' len' l') (hne:0<len+len') :
 Calls Tryz.prog 241 #[.slice a len cap,.slice a' len' cap'] w fun e w'=>e=.returned (.string (jm l l'))∧Kept w w':=by
 have hl:=hr.1;have hm:=hr.2.1;have hl':=hr'.1;have hm':=hr'.2.1;unfold maxLen at hm hm'
 cases l with
 | nil =>
  obtain rfl:len=0:=by simpa using hl.symm
  cases l' with
  | nil=>exfalso;simp at hl';omega
  | cons y t =>
   have h0:0<len':=by omega
   rcases hr'.form with h | ⟨b,off,rfl⟩
   · omega
   obtain⟨hb,c1,c2⟩:=hr'.first
   clear hr hr' hl hl';have h1:decide (0<len')=true:=by simpa using h0
   go_enter Tryz.func241,Tryz.ntmps241;go_wp2;go_quiet (fail)
   go_wp2;go_ret;exact⟨rfl,Kept.drewN _ _⟩
 | cons x s =>
  have h0:0<len:=by simp only[List.length_cons] at hl;omega
  have h0':((len:Int)==0)=false:=by
   have:(len:Int)≠0:=by omega
   simpa using this
  rcases hr.form with h | ⟨b,off,rfl⟩
  · omega
  obtain⟨hb,c1,c2⟩:=hr.first
  cases l' with
  | nil =>
   obtain rfl:len'=0:=by simpa using hl'.symm
   clear hr hr' hl hl';go_enter Tryz.func241,Tryz.ntmps241;go_wp2;go_quiet (fail)
   go_wp2;go_ret;exact⟨rfl,Kept.drewN _ _⟩
  | cons y t =>
   have g0:0<len':=by simp only[List.length_cons] at hl';omega
   have g1:decide (0<len')=true:=by simpa using g0
   rcases hr'.form with h | ⟨b',off',rfl⟩
   · omega
   obtain⟨hb',d1,d2⟩:=hr'.first
   clear hr hr' hl hl';by_cases e:ltS y.1 x.1=true
   · have E:=lH (show jm (x::s) (y::t)=y.1 by rw[jm,if_pos e]);have e':Op.bytesLess y.1.toList x.1.toList=true:=e;clear e;go_enter Tryz.func241,Tryz.ntmps241;go_wp2;go_quiet (fail)
     go_wp2;go_ret;exact⟨by rw[E.out];rfl,Kept.drewN _ _⟩
   · have e:ltS y.1 x.1=false:=by simpa using e
     have E:=lH (show jm (x::s) (y::t)=x.1 by rw[jm,if_neg (by rw[e];decide)]);have e':Op.bytesLess y.1.toList x.1.toList=false:=e;clear e;go_enter Tryz.func241,Tryz.ntmps241;go_wp2;go_quiet (fail)
     go_wp2;go_ret;exact⟨by rw[E.out];rfl,Kept.drewN _ _⟩
def jfv (a:Option Addr) (len:Nat) (l:V) (n:ByteArray) (w:World) (e:Ending) (w':World):Prop :=
 ∃A c,e=.returned (.tuple #[.int .i64 (jr l n).1,.slice A (jr l n).2.length c])∧(jr l n).2.length≤c∧c≤maxLen∧(∀W,jw W a len l→jw W A (jr l n).2.length (jr l n).2)∧Kept w w'
theorem jw.tail {w:World} {b off len:Nat} {x:ByteArray×Int} {t:V} (h:jw w (some ⟨b,off,none⟩) len (x::t)):jw w (some ⟨b,off+2,none⟩) (len-1) t:=by
 have hl:=h.1;simp only[List.length_cons] at hl;refine⟨by omega,by have:=h.2.1;omega,(Jt.cons.1 h.2.2.1).2,?_⟩;by_cases h0:len-1=0
 · exact .inl h0
 · refine .inr ⟨b,off+2,rfl,(h.cells (k:=0) (by omega)).1,fun i hi=>?_⟩;have:=(h.cells (k:=i+1) (by omega)).2;rw[jhX,jhR,show off+(i+1)*2=off+2+i*2 from by omega] at this;exact this
theorem jw.none_tail {w:World} {a:Option Addr} {len:Nat} {x:ByteArray×Int} {t:V} (h:jw w a len (x::t)) (h1:len=1):jw w a (len-1) t:=by
 have hl:=h.1;simp only[List.length_cons] at hl;exact⟨by omega,by have:=h.2.1;omega,(Jt.cons.1 h.2.2.1).2,.inl (by omega)⟩
theorem X8 (a:Option Addr) (len cap:Nat) (l:V) (n:ByteArray) (w:World) (hr:jw w a len l) (hc:len≤cap) (hm:cap≤maxLen) :
 Calls Tryz.prog 242 #[.slice a len cap,.string n] w (jfv a len l n w):=by
 have hl:=hr.1;have hm':=hm;unfold maxLen at hm
 cases l with
 | nil =>
  obtain rfl:len=0:=by simpa using hl.symm
  have HT:=lH (show jfv a 0 [] n w (.returned (.tuple #[.int .i64 0,.slice a 0 cap])) w from⟨a,cap,rfl,hc,hm',fun _ h=>h,Kept.refl _⟩);clear hr hl hm';go_enter Tryz.func242,Tryz.ntmps242;go_wp2;go_ret2
  exact HT.out
 | cons x s =>
  have h0:0<len:=by simp only[List.length_cons] at hl;omega
  have h0':((len:Int)==0)=false:=by
   have:(len:Int)≠0:=by omega
   simpa using this
  rcases hr.form with h | ⟨b,off,rfl⟩
  · omega
  obtain⟨hb,c1,c2⟩:=hr.first
  by_cases e:eqS x.1 n=true
  · have E:=lH (show jr (x::s) n=(x.2,s) by rw[jr,if_pos e]);have e':(x.1.toList==n.toList)=true:=e;have e'':(x.1.toList != n.toList)=false:=by rw[bne,e'];rfl
    obtain⟨HR,HM,HL⟩:=lH3 hr hm' hl;clear e hr hl hm';by_cases hcap:cap=1
    · subst hcap;obtain rfl:len=1:=by omega
      obtain rfl:s=[]:=by have:=HL.out;simp only[List.length_cons] at this;exact List.eq_nil_of_length_eq_zero (by omega)
      have HT:=lH (show ∀k,jfv (some ⟨b,off,none⟩) 1 [x] n w (.returned (.tuple #[.int .i64 x.2,.slice (some ⟨b,off,none⟩) 0 0])) (w.drewN k) from fun k=>⟨some ⟨b,off,none⟩,0,by rw[E.out];rfl,by rw[E.out];exact Nat.le_refl _,by decide,by rw[E.out];exact fun W h=>h.none_tail rfl,Kept.drewN _ _⟩);go_enter Tryz.func242,Tryz.ntmps242;go_wp2;go_quiet (fail)
      go_wp2;go_ret2
      exact HT.out _
    · have hc2:2≤cap:=by omega
      have hl1:len-1=s.length:=by have:=HL.out;simp only[List.length_cons] at this;omega
      have HT:=lH (show ∀k,jfv (some ⟨b,off,none⟩) len (x::s) n w (.returned (.tuple #[.int .i64 x.2,.slice (some ⟨b,off+2,none⟩) (len-1) (cap-1)])) (w.drewN k) from fun k =>
       ⟨some ⟨b,off+2,none⟩,cap-1,by rw[E.out,hl1],by rw[E.out];show s.length≤cap-1;omega,by unfold maxLen;omega,by rw[E.out];intro W h;have:=h.tail;rw[hl1] at this;exact this,Kept.drewN _ _⟩)
      clear hl1;have hc3:¬cap=1:=hcap;have hc4:¬cap-1=0:=by omega
      clear hcap;go_enter Tryz.func242,Tryz.ntmps242;go_wp2;go_quiet (fail)
      go_wp2;go_ret2
      exact HT.out _
  · have e:eqS x.1 n=false:=by simpa using e
    have E:=lH (show jr (x::s) n=(0,x::s) by rw[jr,if_neg (by rw[e];decide)]);have e':(x.1.toList==n.toList)=false:=e;have e'':(x.1.toList != n.toList)=true:=by rw[bne,e'];rfl
    have HT:=lH (show jfv (some ⟨b,off,none⟩) len (x::s) n w (.returned (.tuple #[.int .i64 0,.slice (some ⟨b,off,none⟩) len cap])) w from⟨some ⟨b,off,none⟩,cap,by rw[E.out];show _=Ending.returned (.tuple #[_,Value.slice _ (x::s).length _]);rw[hl],by rw[E.out];show (x::s).length≤cap;omega,hm',by rw[E.out];intro W h;show jw W _ (x::s).length (x::s);rw[hl];exact h,Kept.refl _⟩);clear e hr hl hm';go_enter Tryz.func242,Tryz.ntmps242;go_wp2;go_ret2
    exact HT.out
def jG (x y:Int):Int×Int:=if x+y≤9223372036854775807 then (x+y,0) else (0,5)
def zo (x y:Int):Int×Int:=if y≤x then (x-y,0) else (0,5)
theorem jdx {x y:Int} (h:0≤x∧x≤9223372036854775807) (g:0≤y∧y≤9223372036854775807):0≤(jG x y).1∧(jG x y).1≤9223372036854775807:=by
 unfold jG;split
 · dsimp only;omega
 · decide
theorem jhH {x y:Int} (h:0≤x∧x≤9223372036854775807) (g:0≤y∧y≤9223372036854775807):0≤(zo x y).1∧(zo x y).1≤9223372036854775807:=by
 unfold zo;split
 · dsimp only;omega
 · decide
def Yv (acc:V) (s:ByteArray) (n:Int):V:=if n=0 then acc else acc++[(s,n)]
def j7 (f:Int→Int→Int×Int):Nat→V→V→V→Int×V
 | 0,_,_,acc=>(0,acc)
 | fuel+1,la,lb,acc =>
  if la.length+lb.length=0 then (0,acc)
  else
   let s:=jm la lb
   let r:=f (jr la s).1 (jr lb s).1
   if r.2≠0 then (r.2,[]) else j7 f fuel (jr la s).2 (jr lb s).2 (Yv acc s r.1)
def jj (f:Int→Int→Int×Int) (l l':V):Int×V :=
 if jv l≠0 then (jv l,[])
 else if jv l'≠0 then (jv l',[])
 else
  let r:=j7 f (l.length+l'.length) l l' []
  if r.1≠0 then (r.1,[]) else if 8<r.2.length then (4,[]) else (0,r.2)
theorem jaV {f:Int→Int→Int×Int} {fuel:Nat} {la lb acc:V} (h:la.length+lb.length=0):j7 f fuel la lb acc=(0,acc):=by
 cases fuel with
 | zero=>rfl
 | succ n=>rw[j7,if_pos h]
theorem jdQ {f:Int→Int→Int×Int} {fuel:Nat} {la lb acc:V} (h:0<la.length+lb.length) (hf:la.length+lb.length≤fuel)
 (hx:(f (jr la (jm la lb)).1 (jr lb (jm la lb)).1).2≠0):j7 f fuel la lb acc=((f (jr la (jm la lb)).1 (jr lb (jm la lb)).1).2,[]):=by
 cases fuel with
 | zero=>omega
 | succ n=>rw[j7,if_neg (by omega)];dsimp only;rw[if_pos hx]
theorem jcX {f:Int→Int→Int×Int} {fuel:Nat} {la lb acc:V} (h:0<la.length+lb.length) (hf:la.length+lb.length≤fuel)
 (hx:(f (jr la (jm la lb)).1 (jr lb (jm la lb)).1).2=0) :
 ∃fuel',fuel=fuel'+1∧j7 f fuel la lb acc=j7 f fuel' (jr la (jm la lb)).2 (jr lb (jm la lb)).2 (Yv acc (jm la lb) (f (jr la (jm la lb)).1 (jr lb (jm la lb)).1).1):=by
 cases fuel with
 | zero=>omega
 | succ n=>exact⟨n,rfl,by rw[j7,if_neg (by omega)];dsimp only;rw[if_neg (by rw[hx];decide)]⟩
theorem zh (s:ByteArray):eqS s s=true:=by unfold eqS;exact beq_self_eq_true _
theorem zM (x:ByteArray×Int) (t:V) (n:ByteArray):jr (x::t) n=if eqS x.1 n=true then (x.2,t) else (0,x::t):=rfl
theorem Za (x y:ByteArray×Int) (s t:V):jm (x::s) (y::t)=if ltS y.1 x.1=true then y.1 else x.1:=rfl
theorem jfw (l:V) (s:ByteArray):(jr l s).2.length≤l.length:=by
 cases l with
 | nil=>exact Nat.le_refl _
 | cons x t=>rw[zM];split<;>simp
theorem qF {x:ByteArray×Int} (t:V):(jr (x::t) x.1).2.length=t.length:=by
 rw[zM,if_pos (zh _)]
theorem jas {la lb:V} (h:0<la.length+lb.length):(jr la (jm la lb)).2.length+(jr lb (jm la lb)).2.length+1≤la.length+lb.length:=by
 cases la with
 | nil =>
  cases lb with
  | nil=>simp at h
  | cons y t =>
   have e:jm [] (y::t)=y.1:=rfl;rw[e,qF t];simp[jr]
 | cons x s =>
  cases lb with
  | nil =>
   have e:jm (x::s) []=x.1:=rfl;rw[e,qF s];simp[jr]
  | cons y t =>
   by_cases hlt:ltS y.1 x.1=true
   · have e:jm (x::s) (y::t)=y.1:=by rw[jm,if_pos hlt]
     have:=jfw (x::s) y.1;rw[e,qF t];simp only[List.length_cons] at *;omega
   · have e:jm (x::s) (y::t)=x.1:=by rw[jm,if_neg hlt]
     have:=jfw (y::t) x.1;rw[e,qF s];simp only[List.length_cons] at *;omega
def Pos (l:V):Prop:=∀x ∈ l,0≤x.2∧x.2≤9223372036854775807∧x.1.size≤maxLen
theorem qb {l:V} (h:Pos l) (s:ByteArray):(0≤(jr l s).1∧(jr l s).1≤9223372036854775807)∧Pos (jr l s).2:=by
 cases l with
 | nil=>exact⟨⟨by simp[jr],by simp[jr]⟩,h⟩
 | cons x t =>
  have hx:=h x (by simp);rw[zM];split
  · exact⟨⟨hx.1,hx.2.1⟩,fun y hy=>h y (by simp[hy])⟩
  · exact⟨⟨Int.le_refl _,by show (0:Int)≤_;omega⟩,h⟩
theorem jaD {la lb:V} (ha:Pos la) (hb:Pos lb):(jm la lb).size≤maxLen:=by
 cases la with
 | nil =>
  cases lb with
  | nil=>show 0≤maxLen;exact Nat.zero_le _
  | cons y t=>exact(hb y (by simp)).2.2
 | cons x s =>
  cases lb with
  | nil=>exact(ha x (by simp)).2.2
  | cons y t =>
   rw[Za];split
   · exact(hb y (by simp)).2.2
   · exact(ha x (by simp)).2.2
theorem XZ {l:V} (h:jv l=0) (hf:Jt l):Pos l:=by
 have h2:jQ none l=0:=by
  unfold jv at h;split at h
  · cases h
  · exact h
 have key:∀(l:V) (p:Option ByteArray),jQ p l=0→Jt l→Pos l:=by
  intro l
  induction l with
  | nil=>intro _ _ _ x hx;cases hx
  | cons x t ih =>
   intro p hc hf;rw[Jt.cons] at hf;unfold jQ at hc;split at hc
   · cases hc
   · split at hc
     · cases hc
     · split at hc
       · cases hc
       · intro y hy;rcases List.mem_cons.1 hy with rfl | hy
         · exact⟨by omega,hf.1.2.2,hf.1.1⟩
         · exact ih _ hc hf.2 y hy
 exact key l none h2 hf
theorem Z5 {l:V} (h:jv l=0):l.length≤8:=by
 unfold jv at h;split at h
 · cases h
 · omega
def lenOf:Value→Nat
 | .slice _ n _=>n
 | _=>0
def zu (r:Int×V) (base:Nat) (w:World) (e:Ending) (w':World):Prop :=
 (r.1=0→∃v,e=.returned v∧jT 100 w' base v r.2)∧(r.1≠0→e=.panicked [zx r.1])∧Below base w w'
theorem zu.good {r:Int×V} {base:Nat} {w w':World} {v:Value} (h:r.1=0) (ho:jT 100 w' base v r.2) (hb:Below base w w'):zu r base w (.returned v) w':=⟨fun _=>⟨v,rfl,ho⟩,fun g=>absurd h g,hb⟩
theorem zu.bad {r:Int×V} {base:Nat} {w w':World} {c:Int} (h:r.1=c) (hc:c≠0) (hb:Below base w w'):zu r base w (.panicked [zx c]) w':=⟨fun g=>absurd (h.symm.trans g) hc,fun _=>by rw[h],hb⟩
theorem JX (B:Nat) (q:Nat) (x y:Int) (w:World) (hq:w.cell? ⟨q,0,none⟩=some (.int .i64 y)) (hzq:w.frozen? ⟨q,0,none⟩=false) (hBq:B≤q) :
 CallsD Tryz.prog 240 #[.pointer (some ⟨q,0,none⟩)] (.panicking [zx x]) w fun e u' w' =>
  e=.returned (.tuple #[])∧u'=.panicking [{ zx x with recovered:=true }]∧w'.cell? ⟨q,0,none⟩=some (.int .i64 x)∧Below B w w':=by
 have hta:∀W,(Instr.typeAssert (.iface 45 (.int .i64 x)) 20 45 false).run Tryz.prog W=.ok (.int .i64 x) W:=fun _=>by kernel_rfl
 refine callsD_of_wpS Tryz.func240 rfl fun c₀ cs hu=>?_;apply wpS_seq;apply wpS_region;simp[wpOpsS,go_sem,recoverD,hu,Tryz.ntmps240,Exit.thenS];apply wpS_seq;apply wpS_region;simp[wpOpsS,go_sem,recoverD,Exit.thenS];refine wpS_cond (t:=true) (by simp[Act.eval,Array.replicate]) ?_;simp only[if_true];refine wpS_of_wp ?_;simp[Array.replicate];go_wp2;simp[bodyPostS,results,Tryz.results240];exact⟨World.cell?_setCell_same' _ _ _ (by rw[hq];rfl),(Below.refl B w).setCell (p:=⟨q,0,none⟩) hBq _⟩
theorem Yq (q:Addr) (w:World) :
 CallsD Tryz.prog 240 #[.pointer (some q)] .returning w fun e u' w'=>e=.returned (.tuple #[])∧u'=.returning∧w'=w:=by
 refine callsD_of_wpS Tryz.func240 rfl fun c₀ cs hu=>?_;apply wpS_seq;apply wpS_region;simp[wpOpsS,go_sem,recoverD,hu,Tryz.ntmps240,Exit.thenS];apply wpS_seq;apply wpS_region;simp[wpOpsS,go_sem,recoverD,hu,Exit.thenS];refine wpS_cond (t:=false) (by simp[Act.eval,Array.replicate]) ?_;simp only[Bool.false_eq_true,if_false];refine wpS_of_wp (wp_skip ?_)
 cases c₀
 simp_all [bodyPostS,results,Tryz.results240]
theorem jT.base_le {e:TypeId} {w:World} {B B':Nat} {v:Value} {l:V} (h:jT e w B' v l) (hb:B≤B'):jT e w B v l:=by
 obtain⟨⟨h0,h1⟩,hf⟩:=h;refine⟨⟨h0,h1.imp id ?_⟩,hf⟩;rintro ⟨g,cap,cur,rfl,hbg,rest⟩;exact⟨g,cap,cur,rfl,Nat.le_trans hb hbg,rest⟩
theorem jT.setCell_below {e:TypeId} {w:World} {B:Nat} {v:Value} {l:V} (h:jT e w B v l) {a:Addr} (ha:a.block<B) (u:Value):jT e (w.setCell a u) B v l :=
 ⟨ownsRow_setCell_below h.1 ha u,h.2⟩
def Xc (r:Int×V) (w:World) (e:Ending) (w':World):Prop :=
 ∃v,e=.returned (.tuple #[v,.int .i64 r.1])∧jT 100 w' w.heap.size v r.2∧Kept w w'
theorem jn1 (x y:Int) (w:World) (h0:0≤x) (h1:x≤9223372036854775807) (h2:0≤y) (h3:y≤9223372036854775807) :
 Calls Tryz.prog 214 #[.int .i64 x,.int .i64 y] w (Ans (jG x y).1 (jG x y).2 w):=by
 by_cases h:x+y≤9223372036854775807
 · have e:jG x y=(x+y,0):=by unfold jG;rw[if_pos h]
   rw[e];exact(jnR x y w h0 h2 h).mono fun _ _ g=>g.ans
 · have e:jG x y=(0,5):=by unfold jG;rw[if_neg h]
   rw[e];exact(jln x y w h0 h2 h3 (by omega)).mono fun _ _ g=>g.ans
theorem jja (a a':Option Addr) (len cap len' cap':Nat) (l l':V) (w:World) (hr:jw w a len l) (hr':jw w a' len' l') (hc:len≤cap) (hm:cap≤maxLen) (hc':len'≤cap') (hm':cap'≤maxLen) :
 Calls Tryz.prog 213 #[.slice a len cap,.slice a' len' cap',.func (.func 214) #[] #[]] w (zu (jj jG l l') w.heap.size w):=by
 by_cases h1:jv l=0
 · by_cases h2:jv l'=0
   · have HL:=lH hr.1;have HL':=lH hr'.1;have P1:=lH (XZ h1 hr.2.2.1);have P2:=lH (XZ h2 hr'.2.2.1);have n8:len≤8:=by have:=Z5 h1;rw[hr.1] at this;exact this
     have n8':len'≤8:=by have:=Z5 h2;rw[hr'.1] at this;exact this
     obtain⟨R,hR⟩:=eX (j7 jG (l.length+l'.length) l l' [])
     have HM:=lH (show jj jG l l'=if R.1≠0 then (R.1,[]) else if 8<R.2.length then (4,[]) else (0,R.2) by
      unfold jj;rw[if_neg (by rw[h1];decide),if_neg (by rw[h2];decide)];dsimp only;rw[hR])
     obtain⟨HR,H1,H2,HA,HB⟩:=lH5 hR h1 h2 hr hr';clear hR h1 h2 hr hr';go_enter Tryz.func213,Tryz.ntmps213;go_wp2_with fail
     refine(zY _ _ _ l _ HA.out).mono ?_;rintro e1 w1 ⟨g1,_,k1⟩;obtain rfl:=g1 H1.out;have K1:=lH k1;clear g1 k1;go_wp2_with fail
     refine(zY _ _ _ l' _ (HB.out.kept K1.out)).mono ?_;rintro e2 w2 ⟨g2,_,k2⟩;obtain rfl:=g2 H2.out;have K2:=lH (K1.out.trans k2);clear g2 k2;go_wp2
     go_loopw [0,1,7] (fun va vb v wr=>∃(A B:Option Addr) (n c n' c':Nat) (la lb acc:V) (fuel:Nat),va=.slice A n c∧vb=.slice B n' c'∧n≤c∧c≤maxLen∧n'≤c'∧c'≤maxLen ∧
      jw w A n la∧jw w B n' lb∧Pos la∧Pos lb∧jT 100 wr w.heap.size v acc∧Below w.heap.size w wr∧n+n'≤fuel∧j7 jG fuel la lb acc=R∧acc.length+n+n'≤16)
      (fun va vb _ _=>lenOf va+lenOf vb)
     case atStart =>
      exact⟨a,a',len,cap,len',cap',l,l',[],l.length+l'.length,rfl,rfl,hc,hm,hc',hm',HA.out,HB.out,P1.out,P2.out,jT.nil _ _ _,K2.out,by rw[HL.out,HL'.out];exact Nat.le_refl _,HR.out,by simp;omega⟩
     case round =>
      obtain⟨A,B,n,c,n',c',la,lb,acc,fuel,rfl,rfl,c1,c2,c3,c4,va1,vb1,pa,pb,ho,hB,hfuel,hres,h16⟩:=hrel;obtain⟨VA,VB,PA,PB,HO,Vg,HQ,LA⟩:=lH8 va1 vb1 pa pb ho hB hres va1.1;have LB:=lH vb1.1;clear va1 vb1 pa pb ho hB hres;by_cases hz:n+n'=0
      · obtain rfl:n=0:=by omega
        obtain rfl:n'=0:=by omega
        clear hz;obtain⟨av,cv,rfl,g1,g2,g3⟩:=HO.out.at_;have HE:=lH (show R=(0,acc) from HQ.out.symm.trans (jaV (by rw[LA.out,LB.out])));have hal:acc.length≤9223372036854775807:=by omega
        clear g3 g1 g2;by_cases h8:acc.length≤8
        · have HF:=lH (show jj jG l l'=(0,acc) by rw[HM.out,HE.out];dsimp only;rw[if_neg (by decide),if_neg (by omega)]);go_wp2_with fail
          refine(jbx _ _ _ _ h8).mono ?_;rintro e3 w3 ⟨rfl,rfl⟩;go_wp2;go_ret;exact zu.good (by rw[HF.out]) (by rw[HF.out];exact HO.out) Vg.out
        · have HF:=lH (show jj jG l l'=(4,[]) by rw[HM.out,HE.out];dsimp only;rw[if_neg (by decide),if_pos (by omega)]);go_wp2_with fail
          refine(jcc _ _ _ _ (by omega) hal).mono ?_;rintro e3 w3 ⟨rfl,rfl⟩;go_wp2;exact⟨rfl,zu.bad (by rw[HF.out]) (by decide) Vg.out⟩
      · have hpos:0<n+n':=by omega
        clear hz;obtain⟨HP,HU,HS,T1,T2⟩:=lH5 (show 0<la.length+lb.length by rw[LA.out,LB.out];exact hpos) (show la.length+lb.length≤fuel by rw[LA.out,LB.out];exact hfuel) (jaD PA.out PB.out) (qb PA.out (jm la lb)) (qb PB.out (jm la lb));have VC:=lH (jas HP.out);obtain⟨r1,r2,hr⟩:∃r1 r2,jG (jr la (jm la lb)).1 (jr lb (jm la lb)).1=(r1,r2):=⟨_,_,rfl⟩
        have QF:=lH (show ∀W,Calls Tryz.prog 214 #[.int .i64 (jr la (jm la lb)).1,.int .i64 (jr lb (jm la lb)).1] W (Ans r1 r2 W) from fun W=>by
         have:=jn1 _ _ W T1.out.1.1 T1.out.1.2 T2.out.1.1 T2.out.1.2;rw[hr] at this;exact this)
        have Uj:=lH hr;have RB:=lH (show 0≤r1∧r1≤9223372036854775807 by have:=jdx (T1.out.1) (T2.out.1);rw[hr] at this;exact this);clear hr;have hd:(decide (0<n)||decide (0<n'))=true:=by simp;omega
        rcases Nat.eq_zero_or_pos n with h0 | h0
        case' inl=>(have d2:decide (0<n')=true:=by simp;omega)
        case' inl=>(subst h0)
        case' inr=>(have d1:decide (0<n)=true:=by simp;omega)
        all_goals
         clear hd;go_wp2_with fail
         refine(jbj _ _ _ _ _ _ la lb _ (VA.out.kept Vg.out) (VB.out.kept Vg.out) (by omega)).mono ?_;rintro e3 w3 ⟨rfl,k3⟩;have K3:=lH k3;clear k3;go_wp2_with fail
         refine(X8 _ _ _ la _ _ ((VA.out.kept Vg.out).kept K3.out) c1 c2).mono ?_;rintro e4 w4 ⟨A4,c4',rfl,q1,q2,V4,k4⟩;have K4:=lH (K3.out.trans k4);have Tz:=lH V4;clear k4 V4;go_wp2_with fail
         refine(X8 _ _ _ lb _ _ ((VB.out.kept Vg.out).kept K4.out) c3 c4).mono ?_;rintro e5 w5 ⟨A5,c5',rfl,q3,q4,V5,k5⟩;have K5:=lH (K4.out.trans k5);have TB:=lH V5;clear k5 V5;go_wp2_with fail
         refine(QF.out _).mono ?_;rintro e6 w6 ⟨rfl,k6⟩;have K6:=lH (K5.out.trans k6);clear k6;by_cases hx:r2=0
         · subst hx;go_wp2_with fail
           refine(jff _ _).mono ?_;rintro e7 w7 ⟨rfl,rfl⟩;obtain⟨fuel',hf1,hf2⟩:=jcX (f:=jG) (acc:=acc) HP.out HU.out (by rw[Uj.out]);have TC:=lH hf1;have TD:=lH hf2;clear hf1 hf2;have Vh:=lH (show Below w.heap.size w w6 from Vg.out.trans (Below.mono K6.out Vg.out.size));by_cases hy:r1=0
           · subst hy;go_wp2_with fail
             refine(jd1 _ _ _).mono ?_;rintro e8 w8 ⟨rfl,rfl⟩;go_wp2;go_roundw
             case rel =>
              refine⟨A4,A5,_,c4',_,c5',_,_,acc,fuel',rfl,rfl,q1,q2,q3,q4,Tz.out w VA.out,TB.out w VB.out,T1.out.2,T2.out.2,HO.out.kept K6.out,Vh.out,?_,?_,?_⟩
              · have:=VC.out;have:=HU.out;have:=TC.out;omega
              · have:=TD.out;rw[Uj.out] at this;rw[←HQ.out,this];rfl
              · have:=VC.out;have:=LA.out;have:=LB.out;omega
             case measure=>(show lenOf (Value.slice _ _ _)+lenOf (Value.slice _ _ _)<lenOf (Value.slice _ _ _)+lenOf (Value.slice _ _ _);simp only[lenOf];have:=VC.out;have:=LA.out;have:=LB.out;omega)
           · go_wp2_with fail
             refine(jd4 _ _ r1 w.heap.size acc _ (HO.out.kept K6.out) hy HS.out (by have:=RB.out;omega) (by have:=RB.out;omega) (by omega) Vh.out.size).mono ?_;rintro e8 w8 ⟨v8,rfl,o8,b8⟩;obtain⟨O8,B8,HY⟩:=lH3 o8 b8 hy;clear o8 b8 hy;go_wp2;go_roundw
             case rel =>
              refine⟨A4,A5,_,c4',_,c5',_,_,_,fuel',rfl,rfl,q1,q2,q3,q4,Tz.out w VA.out,TB.out w VB.out,T1.out.2,T2.out.2,O8.out,Vh.out.trans B8.out,?_,?_,?_⟩
              · have:=VC.out;have:=HU.out;have:=TC.out;omega
              · have:=TD.out;rw[Uj.out] at this;rw[←HQ.out,this];dsimp only;unfold Yv;rw[if_neg HY.out]
              · have:=VC.out;have:=LA.out;have:=LB.out;rw[List.length_append];simp only[List.length_cons,List.length_nil];omega
             case measure=>(show lenOf (Value.slice _ _ _)+lenOf (Value.slice _ _ _)<lenOf (Value.slice _ _ _)+lenOf (Value.slice _ _ _);simp only[lenOf];have:=VC.out;have:=LA.out;have:=LB.out;omega)
         · have HX:=lH hx;have HE:=lH (show jj jG l l'=(r2,[]) by
            rw[HM.out,←HQ.out,jdQ HP.out HU.out (by rw[Uj.out];exact hx),Uj.out];dsimp only;rw[if_pos hx])
           go_wp2_with fail
           refine(jdU _ _ _ hx).mono ?_;rintro e7 w7 ⟨rfl,rfl⟩;clear hx;go_wp2;exact⟨rfl,zu.bad (by rw[HE.out]) HX.out (Vg.out.trans (Below.mono K6.out Vg.out.size))⟩
   · obtain⟨HM,HA,HB,H1,H2⟩:=lH5 (show jj jG l l'=(jv l',[]) by unfold jj;rw[if_neg (by rw[h1];decide),if_pos h2]) hr hr' h1 h2;clear h1 h2 hr hr';go_enter Tryz.func213,Tryz.ntmps213;go_wp2_with fail
     refine(zY _ _ _ l _ HA.out).mono ?_;rintro e1 w1 ⟨g1,_,k1⟩;obtain rfl:=g1 H1.out;have K1:=lH k1;clear g1 k1;go_wp2_with fail
     refine(zY _ _ _ l' _ (HB.out.kept K1.out)).mono ?_;rintro e2 w2 ⟨_,g2,k2⟩;obtain rfl:=g2 H2.out;have K2:=lH (K1.out.trans k2);clear g2 k2;go_wp2;exact⟨rfl,zu.bad (by rw[HM.out]) H2.out K2.out⟩
 · obtain⟨HM,HA,H1⟩:=lH3 (show jj jG l l'=(jv l,[]) by unfold jj;rw[if_pos h1]) hr h1;clear h1 hr hr';go_enter Tryz.func213,Tryz.ntmps213;go_wp2_with fail
   refine(zY _ _ _ l _ HA.out).mono ?_;rintro e1 w1 ⟨_,g1,k1⟩;obtain rfl:=g1 H1.out;have K1:=lH k1;clear g1 k1;go_wp2;exact⟨rfl,zu.bad (by rw[HM.out]) H1.out K1.out⟩
theorem jji (C:Addr×Addr) (r:Int×V) (w:World) (hr:r.1≠0→r.2=[])
 (hk:∀W,Kept w W→Calls Tryz.prog 212 #[.pointer (some C.1),.pointer (some C.2)] W (zu r W.heap.size W)) :
 Calls Tryz.prog 211 #[.func (.func 212) #[] #[.pointer (some C.1),.pointer (some C.2)]] w (Xc r w):=by
 have hmf:=hmfL (P:=Tryz.prog);have HK:=lH hk;have HR:=lH hr;clear hk hr;obtain⟨r1,r2⟩:=r;go_enter_defers Tryz.func211,Tryz.ntmps211
 go_wp2_with fail
 refine(HK.out _ (ja _ _)).mono ?_;rintro e1 w1 ⟨h0,h1,hb⟩;have k1:=hb.size;simp only[World.size_alloc] at k1;have c2:=(hb.cell (p:=⟨w.heap.size,0,none⟩) (by simp))
 have z2:=(hb.frozen (p:=⟨w.heap.size,0,none⟩) (by simp))
 have e2':w1.cell? ⟨w.heap.size,0,none⟩=some (.int .i64 0):=by rw[c2];go_simp
 have y2:w1.frozen? ⟨w.heap.size,0,none⟩=false:=by rw[z2];go_simp
 clear c2 z2;have KB:=lH (show Below w.heap.size w w1 from(ja w _).trans hb);by_cases hx:r1=0
 · subst hx;obtain⟨v,rfl,ho⟩:=h0 rfl;have HO:=lH ho;obtain⟨av,cv,rfl,_,_,_⟩:=ho.at_;have hsz:=World.size_alloc w (.cells #[.int .i64 0] 45);clear h0 h1 hb ho;go_wp2_with fail
   refine leaves_cons (f:=240) (args:=#[.pointer (some ⟨w.heap.size,0,none⟩)]) (by simp) (by simp[go_sem]) ?_;refine(Yq ⟨w.heap.size,0,none⟩ _).mono ?_;rintro e u' w'' ⟨rfl,rfl,rfl⟩;simp[Leaves,settle,results,Tryz.results211,go_sem,e2'];exact⟨_,rfl,(HO.out.setCell_below (a:=⟨w.heap.size,0,none⟩) (by simp) _).base_le (by simp),KB.out.setCell (p:=⟨w.heap.size,0,none⟩) (Nat.le_refl _) _⟩
 · obtain rfl:=h1 hx;obtain rfl:=HR.out hx;clear h0 h1 hb;go_wp2_with fail
   refine leaves_cons (f:=240) (args:=#[.pointer (some ⟨w.heap.size,0,none⟩)]) (by simp) (by simp[go_sem]) ?_;refine(JX w.heap.size w.heap.size r1 0 _ e2' y2 (by omega)).mono ?_;rintro e u' w'' ⟨rfl,rfl,q2,q3⟩;simp[Leaves,settle,results,Tryz.results211,go_sem,q2];exact⟨_,rfl,jT.nil _ _ _,KB.out.trans q3⟩
theorem jgX (C:Addr×Addr) (a a':Option Addr) (len cap len' cap':Nat) (l l':V) (w:World) (h1:w.cell? C.1=some (.slice a len cap)) (h2:w.cell? C.2=some (.slice a' len' cap'))
 (hr:jw w a len l) (hr':jw w a' len' l') (hc:len≤cap) (hm:cap≤maxLen) (hc':len'≤cap') (hm':cap'≤maxLen) :
 Calls Tryz.prog 212 #[.pointer (some C.1),.pointer (some C.2)] w (zu (jj jG l l') w.heap.size w):=by
 have HR:=lH hr;have HR':=lH hr';have HM:=lH hm;have HM':=lH hm';clear hr hr' hm hm';go_enter Tryz.func212,Tryz.ntmps212;go_wp2_with fail
 refine(jja a a' len cap len' cap' l l' _ HR.out HR'.out hc HM.out hc' HM'.out).mono ?_;rintro e w' ⟨g0,g1,k⟩;by_cases hx:(jj jG l l').1=0
 · obtain⟨v,rfl,ho⟩:=g0 hx;obtain⟨HX,HO,HK⟩:=lH3 hx ho k;clear g0 g1 hx ho k;go_wp2;go_ret;exact zu.good HX.out HO.out HK.out
 · obtain rfl:=g1 hx;have HX:=lH hx;have HK:=lH k;clear g0 g1 hx k;go_wp2;exact⟨rfl,zu.bad rfl HX.out HK.out⟩
theorem jc1 (l l':V):(jj jG l l').1≠0→(jj jG l l').2=[]:=by
 unfold jj;split
 · exact fun _=>rfl
 · split
   · exact fun _=>rfl
   · dsimp only;split
     · exact fun _=>rfl
     · split
       · exact fun _=>rfl
       · exact fun h=>absurd rfl h
theorem jnp (a a':Option Addr) (len cap len' cap':Nat) (l l':V) (w:World)
 (hr:jw w a len l) (hr':jw w a' len' l') (hc:len≤cap) (hm:cap≤maxLen) (hc':len'≤cap') (hm':cap'≤maxLen) :
 Calls Tryz.prog 162 #[.slice a len cap,.slice a' len' cap'] w (Xc (jj jG l l') w):=by
 have hmf:=hmfL (P:=Tryz.prog);have hC:∀W,Kept ((w.alloc (.cells #[.slice a len cap] 37)).alloc (.cells #[.slice a' len' cap'] 37)) W→Calls Tryz.prog 212 #[.pointer (some ⟨w.heap.size,0,none⟩),.pointer (some ⟨w.heap.size+1,0,none⟩)] W (zu (jj jG l l') W.heap.size W):=by
  intro W k;have c1:=k.cell (p:=⟨w.heap.size,0,none⟩) (by simp;omega);have c2:=k.cell (p:=⟨w.heap.size+1,0,none⟩) (by simp);exact jgX (⟨w.heap.size,0,none⟩,⟨w.heap.size+1,0,none⟩) a a' len cap len' cap' l l' W (by rw[c1];go_simp) (by rw[c2];go_simp) (hr.kept ((jn w _ _).trans k)) (hr'.kept ((jn w _ _).trans k)) hc hm hc' hm'
 have HC:=lH hC;clear hC hr hr' hm hm';go_enter Tryz.func162,Tryz.ntmps162;go_wp2_with fail
 refine(jji (⟨w.heap.size,0,none⟩,⟨w.heap.size+1,0,none⟩) (jj jG l l') _ (jc1 l l') HC.out).mono ?_;rintro e w' ⟨v,rfl,ho,k⟩;have HO:=lH ho;have HK:=lH k;clear ho k;go_wp2;go_ret2
 exact⟨v,rfl,HO.out.base_le (by simp;omega),(jn w _ _).trans HK.out⟩
theorem jnC (x y:Int) (w:World) (h0:0≤x) (h1:x≤9223372036854775807) (h2:0≤y) (h3:y≤9223372036854775807) :
 Calls Tryz.prog 266 #[.int .i64 x,.int .i64 y] w (Ans (zo x y).1 (zo x y).2 w):=by
 by_cases h:y≤x
 · have e:zo x y=(x-y,0):=by unfold zo;rw[if_pos h]
   rw[e];exact(jnB x y w h2 h1 h).mono fun _ _ g=>g.ans
 · have e:zo x y=(0,5):=by unfold zo;rw[if_neg h]
   rw[e];exact(jlP x y w h0 h3 (by omega)).mono fun _ _ g=>g.ans
theorem jjg (a a':Option Addr) (len cap len' cap':Nat) (l l':V) (w:World) (hr:jw w a len l) (hr':jw w a' len' l') (hc:len≤cap) (hm:cap≤maxLen) (hc':len'≤cap') (hm':cap'≤maxLen) :
 Calls Tryz.prog 213 #[.slice a len cap,.slice a' len' cap',.func (.func 266) #[] #[]] w (zu (jj zo l l') w.heap.size w):=by
 by_cases h1:jv l=0
 · by_cases h2:jv l'=0
   · have HL:=lH hr.1;have HL':=lH hr'.1;have P1:=lH (XZ h1 hr.2.2.1);have P2:=lH (XZ h2 hr'.2.2.1);have n8:len≤8:=by have:=Z5 h1;rw[hr.1] at this;exact this
     have n8':len'≤8:=by have:=Z5 h2;rw[hr'.1] at this;exact this
     obtain⟨R,hR⟩:=eX (j7 zo (l.length+l'.length) l l' [])
     have HM:=lH (show jj zo l l'=if R.1≠0 then (R.1,[]) else if 8<R.2.length then (4,[]) else (0,R.2) by
      unfold jj;rw[if_neg (by rw[h1];decide),if_neg (by rw[h2];decide)];dsimp only;rw[hR])
     obtain⟨HR,H1,H2,HA,HB⟩:=lH5 hR h1 h2 hr hr';clear hR h1 h2 hr hr';go_enter Tryz.func213,Tryz.ntmps213;go_wp2_with fail
     refine(zY _ _ _ l _ HA.out).mono ?_;rintro e1 w1 ⟨g1,_,k1⟩;obtain rfl:=g1 H1.out;have K1:=lH k1;clear g1 k1;go_wp2_with fail
     refine(zY _ _ _ l' _ (HB.out.kept K1.out)).mono ?_;rintro e2 w2 ⟨g2,_,k2⟩;obtain rfl:=g2 H2.out;have K2:=lH (K1.out.trans k2);clear g2 k2;go_wp2
     go_loopw [0,1,7] (fun va vb v wr=>∃(A B:Option Addr) (n c n' c':Nat) (la lb acc:V) (fuel:Nat),va=.slice A n c∧vb=.slice B n' c'∧n≤c∧c≤maxLen∧n'≤c'∧c'≤maxLen ∧
      jw w A n la∧jw w B n' lb∧Pos la∧Pos lb∧jT 100 wr w.heap.size v acc∧Below w.heap.size w wr∧n+n'≤fuel∧j7 zo fuel la lb acc=R∧acc.length+n+n'≤16)
      (fun va vb _ _=>lenOf va+lenOf vb)
     case atStart =>
      exact⟨a,a',len,cap,len',cap',l,l',[],l.length+l'.length,rfl,rfl,hc,hm,hc',hm',HA.out,HB.out,P1.out,P2.out,jT.nil _ _ _,K2.out,by rw[HL.out,HL'.out];exact Nat.le_refl _,HR.out,by simp;omega⟩
     case round =>
      obtain⟨A,B,n,c,n',c',la,lb,acc,fuel,rfl,rfl,c1,c2,c3,c4,va1,vb1,pa,pb,ho,hB,hfuel,hres,h16⟩:=hrel;obtain⟨VA,VB,PA,PB,HO,Vg,HQ,LA⟩:=lH8 va1 vb1 pa pb ho hB hres va1.1;have LB:=lH vb1.1;clear va1 vb1 pa pb ho hB hres;by_cases hz:n+n'=0
      · obtain rfl:n=0:=by omega
        obtain rfl:n'=0:=by omega
        clear hz;obtain⟨av,cv,rfl,g1,g2,g3⟩:=HO.out.at_;have HE:=lH (show R=(0,acc) from HQ.out.symm.trans (jaV (by rw[LA.out,LB.out])));have hal:acc.length≤9223372036854775807:=by omega
        clear g3 g1 g2;by_cases h8:acc.length≤8
        · have HF:=lH (show jj zo l l'=(0,acc) by rw[HM.out,HE.out];dsimp only;rw[if_neg (by decide),if_neg (by omega)]);go_wp2_with fail
          refine(jbx _ _ _ _ h8).mono ?_;rintro e3 w3 ⟨rfl,rfl⟩;go_wp2;go_ret;exact zu.good (by rw[HF.out]) (by rw[HF.out];exact HO.out) Vg.out
        · have HF:=lH (show jj zo l l'=(4,[]) by rw[HM.out,HE.out];dsimp only;rw[if_neg (by decide),if_pos (by omega)]);go_wp2_with fail
          refine(jcc _ _ _ _ (by omega) hal).mono ?_;rintro e3 w3 ⟨rfl,rfl⟩;go_wp2;exact⟨rfl,zu.bad (by rw[HF.out]) (by decide) Vg.out⟩
      · have hpos:0<n+n':=by omega
        clear hz;obtain⟨HP,HU,HS,T1,T2⟩:=lH5 (show 0<la.length+lb.length by rw[LA.out,LB.out];exact hpos) (show la.length+lb.length≤fuel by rw[LA.out,LB.out];exact hfuel) (jaD PA.out PB.out) (qb PA.out (jm la lb)) (qb PB.out (jm la lb));have VC:=lH (jas HP.out);obtain⟨r1,r2,hr⟩:∃r1 r2,zo (jr la (jm la lb)).1 (jr lb (jm la lb)).1=(r1,r2):=⟨_,_,rfl⟩
        have QF:=lH (show ∀W,Calls Tryz.prog 266 #[.int .i64 (jr la (jm la lb)).1,.int .i64 (jr lb (jm la lb)).1] W (Ans r1 r2 W) from fun W=>by
         have:=jnC _ _ W T1.out.1.1 T1.out.1.2 T2.out.1.1 T2.out.1.2;rw[hr] at this;exact this)
        have Uj:=lH hr;have RB:=lH (show 0≤r1∧r1≤9223372036854775807 by have:=jhH (T1.out.1) (T2.out.1);rw[hr] at this;exact this);clear hr;have hd:(decide (0<n)||decide (0<n'))=true:=by simp;omega
        rcases Nat.eq_zero_or_pos n with h0 | h0
        case' inl=>(have d2:decide (0<n')=true:=by simp;omega)
        case' inl=>(subst h0)
        case' inr=>(have d1:decide (0<n)=true:=by simp;omega)
        all_goals
         clear hd;go_wp2_with fail
         refine(jbj _ _ _ _ _ _ la lb _ (VA.out.kept Vg.out) (VB.out.kept Vg.out) (by omega)).mono ?_;rintro e3 w3 ⟨rfl,k3⟩;have K3:=lH k3;clear k3;go_wp2_with fail
         refine(X8 _ _ _ la _ _ ((VA.out.kept Vg.out).kept K3.out) c1 c2).mono ?_;rintro e4 w4 ⟨A4,c4',rfl,q1,q2,V4,k4⟩;have K4:=lH (K3.out.trans k4);have Tz:=lH V4;clear k4 V4;go_wp2_with fail
         refine(X8 _ _ _ lb _ _ ((VB.out.kept Vg.out).kept K4.out) c3 c4).mono ?_;rintro e5 w5 ⟨A5,c5',rfl,q3,q4,V5,k5⟩;have K5:=lH (K4.out.trans k5);have TB:=lH V5;clear k5 V5;go_wp2_with fail
         refine(QF.out _).mono ?_;rintro e6 w6 ⟨rfl,k6⟩;have K6:=lH (K5.out.trans k6);clear k6;by_cases hx:r2=0
         · subst hx;go_wp2_with fail
           refine(jff _ _).mono ?_;rintro e7 w7 ⟨rfl,rfl⟩;obtain⟨fuel',hf1,hf2⟩:=jcX (f:=zo) (acc:=acc) HP.out HU.out (by rw[Uj.out]);have TC:=lH hf1;have TD:=lH hf2;clear hf1 hf2;have Vh:=lH (show Below w.heap.size w w6 from Vg.out.trans (Below.mono K6.out Vg.out.size));by_cases hy:r1=0
           · subst hy;go_wp2_with fail
             refine(jd1 _ _ _).mono ?_;rintro e8 w8 ⟨rfl,rfl⟩;go_wp2;go_roundw
             case rel =>
              refine⟨A4,A5,_,c4',_,c5',_,_,acc,fuel',rfl,rfl,q1,q2,q3,q4,Tz.out w VA.out,TB.out w VB.out,T1.out.2,T2.out.2,HO.out.kept K6.out,Vh.out,?_,?_,?_⟩
              · have:=VC.out;have:=HU.out;have:=TC.out;omega
              · have:=TD.out;rw[Uj.out] at this;rw[←HQ.out,this];rfl
              · have:=VC.out;have:=LA.out;have:=LB.out;omega
             case measure=>(show lenOf (Value.slice _ _ _)+lenOf (Value.slice _ _ _)<lenOf (Value.slice _ _ _)+lenOf (Value.slice _ _ _);simp only[lenOf];have:=VC.out;have:=LA.out;have:=LB.out;omega)
           · go_wp2_with fail
             refine(jd4 _ _ r1 w.heap.size acc _ (HO.out.kept K6.out) hy HS.out (by have:=RB.out;omega) (by have:=RB.out;omega) (by omega) Vh.out.size).mono ?_;rintro e8 w8 ⟨v8,rfl,o8,b8⟩;obtain⟨O8,B8,HY⟩:=lH3 o8 b8 hy;clear o8 b8 hy;go_wp2;go_roundw
             case rel =>
              refine⟨A4,A5,_,c4',_,c5',_,_,_,fuel',rfl,rfl,q1,q2,q3,q4,Tz.out w VA.out,TB.out w VB.out,T1.out.2,T2.out.2,O8.out,Vh.out.trans B8.out,?_,?_,?_⟩
              · have:=VC.out;have:=HU.out;have:=TC.out;omega
              · have:=TD.out;rw[Uj.out] at this;rw[←HQ.out,this];dsimp only;unfold Yv;rw[if_neg HY.out]
              · have:=VC.out;have:=LA.out;have:=LB.out;rw[List.length_append];simp only[List.length_cons,List.length_nil];omega
             case measure=>(show lenOf (Value.slice _ _ _)+lenOf (Value.slice _ _ _)<lenOf (Value.slice _ _ _)+lenOf (Value.slice _ _ _);simp only[lenOf];have:=VC.out;have:=LA.out;have:=LB.out;omega)
         · have HX:=lH hx;have HE:=lH (show jj zo l l'=(r2,[]) by
            rw[HM.out,←HQ.out,jdQ HP.out HU.out (by rw[Uj.out];exact hx),Uj.out];dsimp only;rw[if_pos hx])
           go_wp2_with fail
           refine(jdU _ _ _ hx).mono ?_;rintro e7 w7 ⟨rfl,rfl⟩;clear hx;go_wp2;exact⟨rfl,zu.bad (by rw[HE.out]) HX.out (Vg.out.trans (Below.mono K6.out Vg.out.size))⟩
   · obtain⟨HM,HA,HB,H1,H2⟩:=lH5 (show jj zo l l'=(jv l',[]) by unfold jj;rw[if_neg (by rw[h1];decide),if_pos h2]) hr hr' h1 h2;clear h1 h2 hr hr';go_enter Tryz.func213,Tryz.ntmps213;go_wp2_with fail
     refine(zY _ _ _ l _ HA.out).mono ?_;rintro e1 w1 ⟨g1,_,k1⟩;obtain rfl:=g1 H1.out;have K1:=lH k1;clear g1 k1;go_wp2_with fail
     refine(zY _ _ _ l' _ (HB.out.kept K1.out)).mono ?_;rintro e2 w2 ⟨_,g2,k2⟩;obtain rfl:=g2 H2.out;have K2:=lH (K1.out.trans k2);clear g2 k2;go_wp2;exact⟨rfl,zu.bad (by rw[HM.out]) H2.out K2.out⟩
 · obtain⟨HM,HA,H1⟩:=lH3 (show jj zo l l'=(jv l,[]) by unfold jj;rw[if_pos h1]) hr h1;clear h1 hr hr';go_enter Tryz.func213,Tryz.ntmps213;go_wp2_with fail
   refine(zY _ _ _ l _ HA.out).mono ?_;rintro e1 w1 ⟨_,g1,k1⟩;obtain rfl:=g1 H1.out;have K1:=lH k1;clear g1 k1;go_wp2;exact⟨rfl,zu.bad (by rw[HM.out]) H1.out K1.out⟩
theorem jim (C:Addr×Addr) (r:Int×V) (w:World) (hr:r.1≠0→r.2=[])
 (hk:∀W,Kept w W→Calls Tryz.prog 265 #[.pointer (some C.1),.pointer (some C.2)] W (zu r W.heap.size W)) :
 Calls Tryz.prog 211 #[.func (.func 265) #[] #[.pointer (some C.1),.pointer (some C.2)]] w (Xc r w):=by
 have hmf:=hmfL (P:=Tryz.prog);have HK:=lH hk;have HR:=lH hr;clear hk hr;obtain⟨r1,r2⟩:=r;go_enter_defers Tryz.func211,Tryz.ntmps211
 go_wp2_with fail
 refine(HK.out _ (ja _ _)).mono ?_;rintro e1 w1 ⟨h0,h1,hb⟩;have k1:=hb.size;simp only[World.size_alloc] at k1;have c2:=(hb.cell (p:=⟨w.heap.size,0,none⟩) (by simp))
 have z2:=(hb.frozen (p:=⟨w.heap.size,0,none⟩) (by simp))
 have e2':w1.cell? ⟨w.heap.size,0,none⟩=some (.int .i64 0):=by rw[c2];go_simp
 have y2:w1.frozen? ⟨w.heap.size,0,none⟩=false:=by rw[z2];go_simp
 clear c2 z2;have KB:=lH (show Below w.heap.size w w1 from(ja w _).trans hb);by_cases hx:r1=0
 · subst hx;obtain⟨v,rfl,ho⟩:=h0 rfl;have HO:=lH ho;obtain⟨av,cv,rfl,_,_,_⟩:=ho.at_;have hsz:=World.size_alloc w (.cells #[.int .i64 0] 45);clear h0 h1 hb ho;go_wp2_with fail
   refine leaves_cons (f:=240) (args:=#[.pointer (some ⟨w.heap.size,0,none⟩)]) (by simp) (by simp[go_sem]) ?_;refine(Yq ⟨w.heap.size,0,none⟩ _).mono ?_;rintro e u' w'' ⟨rfl,rfl,rfl⟩;simp[Leaves,settle,results,Tryz.results211,go_sem,e2'];exact⟨_,rfl,(HO.out.setCell_below (a:=⟨w.heap.size,0,none⟩) (by simp) _).base_le (by simp),KB.out.setCell (p:=⟨w.heap.size,0,none⟩) (Nat.le_refl _) _⟩
 · obtain rfl:=h1 hx;obtain rfl:=HR.out hx;clear h0 h1 hb;go_wp2_with fail
   refine leaves_cons (f:=240) (args:=#[.pointer (some ⟨w.heap.size,0,none⟩)]) (by simp) (by simp[go_sem]) ?_;refine(JX w.heap.size w.heap.size r1 0 _ e2' y2 (by omega)).mono ?_;rintro e u' w'' ⟨rfl,rfl,q2,q3⟩;simp[Leaves,settle,results,Tryz.results211,go_sem,q2];exact⟨_,rfl,jT.nil _ _ _,KB.out.trans q3⟩
theorem jgU (C:Addr×Addr) (a a':Option Addr) (len cap len' cap':Nat) (l l':V) (w:World) (h1:w.cell? C.1=some (.slice a len cap)) (h2:w.cell? C.2=some (.slice a' len' cap'))
 (hr:jw w a len l) (hr':jw w a' len' l') (hc:len≤cap) (hm:cap≤maxLen) (hc':len'≤cap') (hm':cap'≤maxLen) :
 Calls Tryz.prog 265 #[.pointer (some C.1),.pointer (some C.2)] w (zu (jj zo l l') w.heap.size w):=by
 have HR:=lH hr;have HR':=lH hr';have HM:=lH hm;have HM':=lH hm';clear hr hr' hm hm';go_enter Tryz.func265,Tryz.ntmps265;go_wp2_with fail
 refine(jjg a a' len cap len' cap' l l' _ HR.out HR'.out hc HM.out hc' HM'.out).mono ?_;rintro e w' ⟨g0,g1,k⟩;by_cases hx:(jj zo l l').1=0
 · obtain⟨v,rfl,ho⟩:=g0 hx;obtain⟨HX,HO,HK⟩:=lH3 hx ho k;clear g0 g1 hx ho k;go_wp2;go_ret;exact zu.good HX.out HO.out HK.out
 · obtain rfl:=g1 hx;have HX:=lH hx;have HK:=lH k;clear g0 g1 hx k;go_wp2;exact⟨rfl,zu.bad rfl HX.out HK.out⟩
theorem X6 (l l':V):(jj zo l l').1≠0→(jj zo l l').2=[]:=by
 unfold jj;split
 · exact fun _=>rfl
 · split
   · exact fun _=>rfl
   · dsimp only;split
     · exact fun _=>rfl
     · split
       · exact fun _=>rfl
       · exact fun h=>absurd rfl h
theorem jnc (a a':Option Addr) (len cap len' cap':Nat) (l l':V) (w:World)
 (hr:jw w a len l) (hr':jw w a' len' l') (hc:len≤cap) (hm:cap≤maxLen) (hc':len'≤cap') (hm':cap'≤maxLen) :
 Calls Tryz.prog 230 #[.slice a len cap,.slice a' len' cap'] w (Xc (jj zo l l') w):=by
 have hmf:=hmfL (P:=Tryz.prog);have hC:∀W,Kept ((w.alloc (.cells #[.slice a len cap] 37)).alloc (.cells #[.slice a' len' cap'] 37)) W→Calls Tryz.prog 265 #[.pointer (some ⟨w.heap.size,0,none⟩),.pointer (some ⟨w.heap.size+1,0,none⟩)] W (zu (jj zo l l') W.heap.size W):=by
  intro W k;have c1:=k.cell (p:=⟨w.heap.size,0,none⟩) (by simp;omega);have c2:=k.cell (p:=⟨w.heap.size+1,0,none⟩) (by simp);exact jgU (⟨w.heap.size,0,none⟩,⟨w.heap.size+1,0,none⟩) a a' len cap len' cap' l l' W (by rw[c1];go_simp) (by rw[c2];go_simp) (hr.kept ((jn w _ _).trans k)) (hr'.kept ((jn w _ _).trans k)) hc hm hc' hm'
 have HC:=lH hC;clear hC hr hr' hm hm';go_enter Tryz.func230,Tryz.ntmps230;go_wp2_with fail
 refine(jim (⟨w.heap.size,0,none⟩,⟨w.heap.size+1,0,none⟩) (jj zo l l') _ (X6 l l') HC.out).mono ?_;rintro e w' ⟨v,rfl,ho,k⟩;have HO:=lH ho;have HK:=lH k;clear ho k;go_wp2;go_ret2
 exact⟨v,rfl,HO.out.base_le (by simp;omega),(jn w _ _).trans HK.out⟩
end Go.Proofs.YtokdjfoalkmhiaaGreat.Vec
namespace Go.Proofs.YtokdjfoalkmhiaaGreat
open Go.RowKit
theorem zB {α:Type} {l:List α} {k:Nat} (h:¬k<l.length):l.drop k=[]:=List.drop_of_length_le (by omega)
theorem all_cons {α:Type} (f:α→Bool) (x:α) (t:List α):(x::t).all f=(f x&&t.all f):=rfl
theorem zI {α:Type} {l:List α} {k:Nat} {x:α} (h:l[k]?=some x):l.take (k+1)=l.take k++[x]:=by rw[List.take_add_one,h];rfl
theorem Own.snoc {α:Type} {L:Lay α} {e:TypeId} {w:World} {base n:Nat} {v:Value} {l:List α} {x:α} (h:w.ownsRow base e L.m v n (je L l++L.cs x)) (hn:l.length+1=n) (hf:∀z ∈ l,L.fine z) (hx:L.fine x):Own L e w base v (l++[x]):=by
 refine⟨?_,fun z hz=>?_⟩
 · rw[List.length_append,JD];show w.ownsRow base e L.m v (l.length+1) (je L l++je L [x]);rw[hn];have e:je L [x]=L.cs x:=by unfold je;simp
   rw[e];exact h
 · rcases List.mem_append.1 hz with g | g
   · exact hf z g
   · have:z=x:=by simpa using g
     rw[this];exact hx
def Say (v:Value) (w:World) (e:Ending) (w':World):Prop:=e=.returned v∧Kept w w'
theorem Reads.nil {α:Type} {L:Lay α} (w:World):Reads L w (.slice none 0 0) []:=⟨none,0,rfl,Nat.le_refl _,by decide,jk.nil w none⟩
theorem Reads.fine {α:Type} {L:Lay α} {v:Value} {l:List α} {w:World} (h:Reads L w v l):∀x ∈ l,L.fine x:=by
 obtain⟨a,cap,rfl,h1,h2,h3⟩:=h;exact h3.2.2.1
theorem jk.part {α:Type} {L:Lay α} {w:World} {b off len:Nat} {l:List α} (h:jk L w (some ⟨b,off,none⟩) len l) (i n:Nat) (hi:i+n≤len) :
 jk L w (some ⟨b,off+i*L.m,none⟩) n ((l.drop i).take n):=by
 obtain⟨h0,h1,h2,h3⟩:=h;refine⟨by rw[List.length_take,List.length_drop];omega,by omega,fun x hx=>h2 x (List.mem_of_mem_drop (List.mem_of_mem_take hx)),?_⟩;rcases h3 with h3 | ⟨b',off',e,hb,hc⟩
 · exact .inl (by omega)
 · injection e with e;injection e with e1 e2 e3;subst e1;subst e2;refine .inr ⟨b,_,rfl,hb,fun k x j u hk hj=>?_⟩;have hkn:k<n:=by have:=(List.getElem?_eq_some_iff.1 hk).1;rw[List.length_take] at this;omega
   have hk':l[i+k]?=some x:=by
    rw[List.getElem?_take,if_pos hkn,List.getElem?_drop] at hk;exact hk
   have:=hc (i+k) x j u hk' hj;rw[show off+i*L.m+k*L.m+j=off+(i+k)*L.m+j by rw[Nat.add_mul];omega];exact this
open Go.RowKit Go.Shelf
def bytes (l:List UInt8):ByteArray:=⟨l.toArray⟩
theorem JQ {w w':World} (h:Kept w w') {a:Addr} (ha:w.heap.size≤a.block) (v:Value):Kept w (w'.setCell a v):=Below.setCell h ha v
attribute [local go_sem] Oper.semAt_some
structure St (b2 D:Nat) (W W':World):Prop where
 os:W'.os=W.os
 tape:W'.tape=W.tape
 output:W'.output=W.output
 size:W.heap.size≤W'.heap.size
 block:∀b,b≠b2→b≠D→b≠D+1→W'.heap[b]?=W.heap[b]?
theorem St.setCell {b2 D:Nat} (W:World) (v:Value):St b2 D W (W.setCell ⟨b2,0,none⟩ v) :=
 ⟨rfl,rfl,rfl,by show W.heap.size≤(W.heap.modify _ _).size;rw[Array.size_modify];exact Nat.le_refl _,fun b h _ _=>Below.heap_setCell W ⟨b2,0,none⟩ v b h⟩
theorem St.drewN {b2 D:Nat} (W:World) (n:Nat):St b2 D W (W.drewN n):=⟨rfl,rfl,rfl,Nat.le_refl _,fun _ _ _ _=>rfl⟩
theorem St.put {b2 D:Nat} (W:World) (o:Obj):St b2 D W (W.putObj (D+1) o):=⟨rfl,rfl,rfl,by simp,fun b _ _ h=>World.putObj_heap_other h⟩
def KeptAt (b1 b2 b3 D:Nat) (W W':World):Prop:=∀b,b=b1∨b=b2∨b=b3∨b=D∨b=D+1→W'.heap[b]?=W.heap[b]?
theorem KeptAt.trans {b1 b2 b3 D:Nat} {A B C:World} (h:KeptAt b1 b2 b3 D A B) (k:KeptAt b1 b2 b3 D B C):KeptAt b1 b2 b3 D A C:=fun b hb=>(k b hb).trans (h b hb)
theorem KeptAt.drewN {b1 b2 b3 D:Nat} (W:World) (n:Nat):KeptAt b1 b2 b3 D W (W.drewN n):=fun _ _=>rfl
end Go.Proofs.YtokdjfoalkmhiaaGreat
namespace Go.Proofs.YtokdjfoalkmhiaaGreat
open Go.RowKit Go.Shelf
attribute [local go_sem] Oper.semAt_some
theorem Own.row {α:Type} {L:Lay α} {e:TypeId} {w:World} {B n:Nat} {v:Value} {l:List α} (h:Own L e w B v l) (hn:l.length=n):w.ownsRow B e L.m v n (je L l):=hn▸h.1
def jdg {α:Type} (L:Lay α) (e:TypeId) (r:Int×List α) (base:Nat) (w:World) (en:Ending) (w':World):Prop :=
 (r.1=0→∃v,en=.returned v∧Own L e w' base v r.2)∧(r.1≠0→en=.panicked [zx r.1])∧Below base w w'
theorem jdg.good {α:Type} {L:Lay α} {e:TypeId} {r:Int×List α} {base:Nat} {w w':World} {v:Value} (h:r.1=0) (ho:Own L e w' base v r.2) (hb:Below base w w'):jdg L e r base w (.returned v) w':=⟨fun _=>⟨v,rfl,ho⟩,fun g=>absurd h g,hb⟩
theorem jdg.bad {α:Type} {L:Lay α} {e:TypeId} {r:Int×List α} {base:Nat} {w w':World} {c:Int} (h:r.1=c) (hc:c≠0) (hb:Below base w w'):jdg L e r base w (.panicked [zx c]) w':=⟨fun g=>absurd (h.symm.trans g) hc,fun _=>by rw[h],hb⟩
end Go.Proofs.YtokdjfoalkmhiaaGreat
namespace Go.Proofs.YtokdjfoalkmhiaaGreat.Vec
open Go.RowKit
def nameOf (p:List UInt8):List UInt8:=(Lib.cut p [61]).1
def jj0 (p:List UInt8):List UInt8:=(Lib.cut p [61]).2.1
end Go.Proofs.YtokdjfoalkmhiaaGreat.Vec
namespace Go.Proofs.YtokdjfoalkmhiaaGreat.Vec
open Go.RowKit Go.Shelf
attribute [local go_sem] Oper.semAt_some
theorem jT.put {e:TypeId} {w:World} {B D:Nat} {v:Value} {l:V} (h:jT e w B v l) (hD:D<B) (o:Obj):jT e (w.putObj D o) B v l:=by
 obtain⟨⟨h0,h1⟩,hf⟩:=h;refine⟨⟨h0,h1.imp id ?_⟩,hf⟩;rintro ⟨g,cap,cur,rfl,hbg,hg,rest⟩;exact⟨g,cap,cur,rfl,hbg,(World.putObj_heap_other (by omega)).trans hg,rest⟩
theorem jT.row {e:TypeId} {w:World} {B n:Nat} {v:Value} {l:V} (h:jT e w B v l) (hn:l.length=n):w.ownsRow B e 2 v n (cellsOf l):=hn▸h.1
end Go.Proofs.YtokdjfoalkmhiaaGreat.Vec
