/- C. -/
import Derived.Test.YtibepooajeakfaaGreatShort
import Derived.Test.YtibepooajeakfaaGreatProg
import Derived.WalkLawsBesides
import Derived.WalkSpells
import Derived.BigQuiet
import Derived.Deep.AppendLies
import Derived.RangeFuncRecord
import Derived.Shelf.Small.Bits
import Derived.Shelf.Slices.Turned
import Derived.Shelf.Slices.SearchI
import Derived.Lib.Split
import Derived.Lib.Join
import Derived.Lib.ParseIntB
import Derived.Lib.ItoaNum
set_option linter.unusedVariables false
set_option maxRecDepth 100000
set_option maxHeartbeats 25600000
namespace Go.Proofs.YtibepooajeakfaaGreat
open Go.RowKit
def Kept (w w':World):Prop:=Below w.heap.size w w'
theorem Kept.refl (w:World):Kept w w:=Below.refl _ _
theorem Kept.trans {a b c:World} (h:Kept a b) (k:Kept b c):Kept a c:=Below.trans h (Below.mono k h.size)
theorem Kept.drewN (w:World) (n:Nat):Kept w (w.drewN n):=below_drewN (Below.refl _ _) n
theorem Kept.drew (w:World):Kept w w.drew:=Kept.drewN w 1
theorem ja (w:World) (o:Obj):Kept w (w.alloc o):=(Below.refl _ _).alloc (Nat.le_refl _) _
theorem Yi (w:World) (o:Obj) (n:Nat):Kept w ((w.drewN n).alloc o):=(ja w o).trans (Kept.drewN _ n)
theorem jm (w:World) (o o':Obj):Kept w ((w.alloc o).alloc o'):=(ja w o).trans (ja _ o')
theorem cell_later {w w':World} {a:Addr} {u:Value} (k:Kept w w') (h:w.cell? a=some u):w'.cell? a=some u :=
 (Below.cell k (World.block_lt_of_cell? _ _ h)).trans h
theorem jc {a b:Int} (h:a=b):Ending.returned (.int .i64 a)=.returned (.int .i64 b):=by rw[h]
def ltS (s t:ByteArray):Bool:=Op.bytesLess s.toList t.toList
def eqS (s t:ByteArray):Bool:=s.toList==t.toList
def leS (s t:ByteArray):Bool:=ltS s t||eqS s t
theorem jM {s t:ByteArray}:eqS s t=true↔s=t:=by
 unfold eqS;rw[Lib.toList_data,Lib.toList_data,beq_iff_eq];constructor
 · intro h
   cases s;cases t
   simp only[ByteArray.mk.injEq];exact Array.ext' h
 · rintro rfl;rfl
theorem J7 (s:ByteArray):eqS s s=true:=jM.2 rfl
structure Lay (α:Type) where
 m:Nat
 cs:α→List Value
 fine:α→Prop
 len:∀x,(cs x).length=m
 one:∀x u,u ∈ cs x→u.oneCell'=true
 pos:0<m
theorem qd (x:ByteArray) (u:Value) (h:u ∈ [Value.string x]):u.oneCell'=true:=by
 have e:u=Value.string x:=by simpa using h
 rw[e];rfl
theorem jej (x y:ByteArray) (u:Value) (h:u ∈ [Value.string x,Value.string y]):u.oneCell'=true:=by
 have e:u=Value.string x∨u=Value.string y:=by simpa using h
 rcases e with e | e<;>rw[e]<;>rfl
theorem jgD (o:Int) (x y:ByteArray) (u:Value) (h:u ∈ [Value.int .i64 o,Value.string x,Value.string y]):u.oneCell'=true:=by
 have e:u=Value.int .i64 o∨u=Value.string x∨u=Value.string y:=by simpa using h
 rcases e with e | e | e<;>rw[e]<;>rfl
def j8:Lay ByteArray:={ m:=1,cs:=fun s=>[.string s],fine:=fun s=>s.size≤maxLen,len:=fun _=>rfl,one:=qd,pos:=by decide }
def jy:Lay (ByteArray×ByteArray):={ m:=2,cs:=fun x=>[.string x.1,.string x.2],fine:=fun x=>x.1.size≤maxLen∧x.2.size≤maxLen,len:=fun _=>rfl,one:=fun x=>jej x.1 x.2,pos:=by decide }
def jS:Lay (Int×ByteArray×ByteArray):={ m:=3,cs:=fun x=>[.int .i64 x.1,.string x.2.1,.string x.2.2],fine:=fun x=>(-9223372036854775808≤x.1∧x.1≤9223372036854775807)∧x.2.1.size≤maxLen∧x.2.2.size≤maxLen,len:=fun _=>rfl,one:=fun x=>jgD x.1 x.2.1 x.2.2,pos:=by decide }
def jn {α:Type} (L:Lay α) (w:World) (a:Option Addr) (len:Nat) (l:List α):Prop :=
 l.length=len∧len≤maxLen∧(∀x ∈ l,L.fine x) ∧
  (len=0∨∃b off,a=some ⟨b,off,none⟩∧b<w.heap.size ∧
    ∀i x j u,l[i]?=some x→(L.cs x)[j]?=some u→w.cell? ⟨b,off+i*L.m+j,none⟩=some u)
theorem jn.kept {α:Type} {L:Lay α} {w w':World} {a:Option Addr} {len:Nat} {l:List α} (h:jn L w a len l) (k:Kept w w'):jn L w' a len l:=by
 obtain⟨h0,h1,h2,h3⟩:=h;refine⟨h0,h1,h2,h3.imp id ?_⟩;rintro ⟨b,off,ha,hb,hc⟩;exact⟨b,off,ha,Nat.lt_of_lt_of_le hb k.size,fun i x j u hi hj=>(Below.cell k (p:=⟨b,off+i*L.m+j,none⟩) hb).trans (hc i x j u hi hj)⟩
theorem jn.nil {α:Type} {L:Lay α} (w:World) (a:Option Addr):jn L w a 0 []:=⟨rfl,by decide,fun i hi=>absurd hi (by simp),.inl rfl⟩
theorem jn.form {α:Type} {L:Lay α} {w:World} {a:Option Addr} {len:Nat} {l:List α} (h:jn L w a len l):len=0∨∃b off,a=some ⟨b,off,none⟩:=by
 obtain⟨_,_,_,h3⟩:=h;exact h3.imp id fun ⟨b,off,e,_⟩=>⟨b,off,e⟩
theorem jn.cells {α:Type} {L:Lay α} {w:World} {b off len:Nat} {l:List α} {k:Nat} (h:jn L w (some ⟨b,off,none⟩) len l) (hk:k<len) :
 ∃x,l[k]?=some x∧l.drop k=x::l.drop (k+1)∧b<w.heap.size∧L.fine x∧∀(j:Nat) u,(L.cs x)[j]?=some u→w.cell? ⟨b,off+k*L.m+j,none⟩=some u:=by
 obtain⟨h0,_,hf,h3⟩:=h;have hkl:k<l.length:=by omega
 rcases h3 with h3 | ⟨b',off',e,hb,hc⟩
 · omega
 · injection e with e;injection e with e1 e2 e3;subst e1;subst e2;have he:l[k]?=some l[k]:=List.getElem?_eq_getElem hkl;exact⟨l[k],he,List.drop_eq_getElem_cons hkl,hb,hf _ (List.getElem_mem hkl),fun j u hu=>hc k _ j u he hu⟩
theorem jn.str {w:World} {b off len:Nat} {l:List ByteArray} {k:Nat} (h:jn j8 w (some ⟨b,off,none⟩) len l) (hk:k<len) :
 ∃x:ByteArray,l[k]?=some x∧l.drop k=x::l.drop (k+1)∧b<w.heap.size∧x.size≤maxLen∧w.cell? ⟨b,off+k,none⟩=some (.string x):=by
 obtain⟨x,h1,h2,h3,h4,h5⟩:=h.cells hk;exact⟨x,h1,h2,h3,h4,by have:=h5 0 _ rfl;simpa [j8] using this⟩
theorem jn.pair {w:World} {b off len:Nat} {l:List (ByteArray×ByteArray)} {k:Nat} (h:jn jy w (some ⟨b,off,none⟩) len l) (hk:k<len) :
 ∃x y:ByteArray,l[k]?=some (x,y)∧l.drop k=(x,y)::l.drop (k+1)∧b<w.heap.size∧x.size≤maxLen∧y.size≤maxLen∧w.cell? ⟨b,off+k*2,none⟩=some (.string x)∧w.cell? ⟨b,off+k*2+1,none⟩=some (.string y):=by
 obtain⟨⟨x,y⟩,h1,h2,h3,h4,h5⟩:=h.cells hk;exact⟨x,y,h1,h2,h3,h4.1,h4.2,h5 0 _ rfl,h5 1 _ rfl⟩
theorem jn.term {w:World} {b off len:Nat} {l:List (Int×ByteArray×ByteArray)} {k:Nat} (h:jn jS w (some ⟨b,off,none⟩) len l) (hk:k<len) :
 ∃(o:Int) (x y:ByteArray),l[k]?=some (o,x,y)∧l.drop k=(o,x,y)::l.drop (k+1)∧b<w.heap.size∧(-9223372036854775808≤o∧o≤9223372036854775807)∧x.size≤maxLen∧y.size≤maxLen ∧
  w.cell? ⟨b,off+k*3,none⟩=some (.int .i64 o)∧w.cell? ⟨b,off+k*3+1,none⟩=some (.string x)∧w.cell? ⟨b,off+k*3+2,none⟩=some (.string y):=by
 obtain⟨⟨o,x,y⟩,h1,h2,h3,h4,h5⟩:=h.cells hk;exact⟨o,x,y,h1,h2,h3,h4.1,h4.2.1,h4.2.2,h5 0 _ rfl,h5 1 _ rfl,h5 2 _ rfl⟩
def jd {α:Type} (L:Lay α) (l:List α):List Value:=l.flatMap L.cs
theorem jR {α:Type} (L:Lay α):∀l:List α,(jd L l).length=l.length*L.m
 | []=>by simp[jd]
 | x::t=>by
  have:=jR L t;unfold jd at this ⊢;rw[List.flatMap_cons,List.length_append,this,L.len,List.length_cons,Nat.add_mul,Nat.one_mul,Nat.add_comm]
theorem Jl {α:Type} (L:Lay α) (l m:List α):jd L (l++m)=jd L l++jd L m:=by unfold jd;rw[List.flatMap_append]
theorem zR {α:Type} (L:Lay α) (l:List α) (u:Value) (h:u ∈ jd L l):u.oneCell'=true:=by
 obtain⟨x,_,hu⟩:=List.mem_flatMap.1 h;exact L.one x u hu
theorem ZL {α:Type} (L:Lay α):∀(l:List α) (i:Nat) (x:α) (j:Nat) (u:Value),l[i]?=some x→(L.cs x)[j]?=some u→(jd L l)[i*L.m+j]?=some u
 | [],i,x,j,u,h,_=>by simp at h
 | y::t,0,x,j,u,h,hu=>by
  have:y=x:=by simpa using h
  subst this;unfold jd;rw[List.flatMap_cons,Nat.zero_mul,Nat.zero_add,List.getElem?_append_left (List.getElem?_eq_some_iff.1 hu).1];exact hu
 | y::t,i+1,x,j,u,h,hu=>by
  have ih:=ZL L t i x j u (by simpa using h) hu;unfold jd at ih ⊢;rw[List.flatMap_cons,List.getElem?_append_right (by rw[L.len,Nat.add_mul];omega),L.len];have:(i+1)*L.m+j-L.m=i*L.m+j:=by rw[Nat.add_mul];omega
  rw[this];exact ih
def Own {α:Type} (L:Lay α) (e:TypeId) (w:World) (base:Nat) (v:Value) (l:List α):Prop:=w.ownsRow base e L.m v l.length (jd L l)∧∀x ∈ l,L.fine x
theorem Own.nil {α:Type} {L:Lay α} (e:TypeId) (w:World) (base:Nat):Own L e w base (.slice none 0 0) []:=⟨World.ownsRow_nil w base e L.m,fun x h=>by cases h⟩
theorem Own.at_ {α:Type} {L:Lay α} {e:TypeId} {w:World} {base:Nat} {v:Value} {l:List α} (h:Own L e w base v l) :
 ∃a cap,v=.slice a l.length cap∧l.length≤cap∧cap≤maxLen∧jn L w a l.length l:=by
 obtain⟨h,hf⟩:=h;have h':=h;obtain⟨_,h1⟩:=h;rcases h1 with ⟨rfl,h0⟩ | ⟨g,cap,cur,rfl,hbg,hg,hn,hm,hs,ht⟩
 · have:l=[]:=List.eq_nil_of_length_eq_zero h0;subst this;exact⟨none,0,rfl,Nat.le_refl _,by decide,jn.nil w none⟩
 · refine⟨_,cap,rfl,hn,hm,rfl,Nat.le_trans hn hm,hf,.inr ⟨g,0,rfl,?_,fun i x j u hi hj=>?_⟩⟩
   · rcases Nat.lt_or_ge g w.heap.size with hlt | hge
     · exact hlt
     · rw[Array.getElem?_eq_none hge] at hg;cases hg
   · have c1:=h'.cells (g:=g) rfl _ _ (ZL L l i x j u hi hj);rw[←c1];congr 1
     unfold Addr.add;split<;>simp_all
theorem Own.kept {α:Type} {L:Lay α} {e:TypeId} {w w':World} {base:Nat} {v:Value} {l:List α} (h:Own L e w base v l) (k:Kept w w'):Own L e w' base v l:=by
 obtain⟨⟨h0,h1⟩,hf⟩:=h;refine⟨⟨h0,h1.imp id ?_⟩,hf⟩;rintro ⟨g,cap,cur,rfl,hbg,hg,hn,hm,hs,ht⟩;refine⟨g,cap,cur,rfl,hbg,?_,hn,hm,hs,ht⟩;have hlt:g<w.heap.size:=by
  rcases Nat.lt_or_ge g w.heap.size with hlt | hge
  · exact hlt
  · rw[Array.getElem?_eq_none hge] at hg;cases hg
 exact(k.block g hlt).trans hg
theorem Own.base_le {α:Type} {L:Lay α} {e:TypeId} {w:World} {B B':Nat} {v:Value} {l:List α} (h:Own L e w B' v l) (hb:B≤B'):Own L e w B v l:=by
 obtain⟨⟨h0,h1⟩,hf⟩:=h;refine⟨⟨h0,h1.imp id ?_⟩,hf⟩;rintro ⟨g,cap,cur,rfl,hbg,rest⟩;exact⟨g,cap,cur,rfl,Nat.le_trans hb hbg,rest⟩
theorem Own.setCell_below {α:Type} {L:Lay α} {e:TypeId} {w:World} {B:Nat} {v:Value} {l:List α} (h:Own L e w B v l) {a:Addr} (ha:a.block<B) (u:Value):Own L e (w.setCell a u) B v l :=
 ⟨ownsRow_setCell_below h.1 ha u,h.2⟩
theorem Own.put {α:Type} {L:Lay α} {e:TypeId} {w:World} {B D:Nat} {v:Value} {l:List α} (h:Own L e w B v l) (hD:D<B) (o:Obj):Own L e (w.putObj D o) B v l:=by
 obtain⟨⟨h0,h1⟩,hf⟩:=h;refine⟨⟨h0,h1.imp id ?_⟩,hf⟩;rintro ⟨g,cap,cur,rfl,hbg,hg,rest⟩;exact⟨g,cap,cur,rfl,hbg,(World.putObj_heap_other (by omega)).trans hg,rest⟩
def Reads {α:Type} (L:Lay α) (w:World) (v:Value) (l:List α):Prop:=∃a cap,v=.slice a l.length cap∧l.length≤cap∧cap≤maxLen∧jn L w a l.length l
theorem Reads.kept {α:Type} {L:Lay α} {w w':World} {v:Value} {l:List α} (h:Reads L w v l) (k:Kept w w'):Reads L w' v l:=by
 obtain⟨a,cap,e,h1,h2,h3⟩:=h;exact⟨a,cap,e,h1,h2,h3.kept k⟩
theorem Own.reads {α:Type} {L:Lay α} {e:TypeId} {w:World} {base:Nat} {v:Value} {l:List α} (h:Own L e w base v l):Reads L w v l:=by
 obtain⟨a,cap,e,h1,h2,h3⟩:=h.at_;exact⟨a,cap,e,h1,h2,h3⟩
abbrev zo (c:Int):PanicEntry:={ v:=.iface 69 (.int .i64 c),recovered:=false }
def Zu (c:UInt8):Bool:=(decide (97≤(c.toNat:Int))&&decide ((c.toNat:Int)≤122))||(decide (48≤(c.toNat:Int))&&decide ((c.toNat:Int)≤57))
def isName (s:ByteArray):Bool:=decide (1≤s.size)&&decide (s.size≤12)&&s.data.toList.all Zu
theorem jdA {s:ByteArray} (h:s.size=0):s=ByteArray.empty:=by
 have e:s.data.toList=[]:=List.eq_nil_of_length_eq_zero (by rw[Array.length_toList,ByteArray.size_data];exact h);exact Go.WideShapes.bytes_inj (by rw[e];rfl)
theorem jf {a b:Bool} (h:a=b):Ending.returned (.bool a)=.returned (.bool b):=by rw[h]
theorem ZB (c:UInt8):Zu c=true↔((97≤(c.toNat:Int)∧(c.toNat:Int)≤122)∨(48≤(c.toNat:Int)∧(c.toNat:Int)≤57)):=by
 unfold Zu;simp only[Bool.or_eq_true,Bool.and_eq_true,decide_eq_true_eq]
theorem jiM {s:ByteArray} (h:s.data.toList.all Zu=true) (i:Nat) (hi:i<s.size):Zu s[i]=true:=by
 rw[List.all_eq_true] at h;exact h _ (by simp[ByteArray.getElem_eq_getElem_data])
theorem jcg {s:ByteArray} (h:¬s.data.toList.all Zu=true):∃(j:Nat) (hj:j<s.size),Zu s[j]=false:=by
 rw[List.all_eq_true] at h;obtain⟨x,h⟩:=Classical.not_forall.1 h;obtain⟨hx,hn⟩:=Classical.not_imp.1 h;obtain⟨j,hj,e⟩:=List.getElem_of_mem hx;refine⟨j,by simpa using hj,?_⟩;have:s[j]'(by simpa using hj)=x:=by rw[←e];simp[ByteArray.getElem_eq_getElem_data]
 rw[this];simpa using hn
theorem jc6 (c:UInt8) (w:World) (h1:48≤(c.toNat:Int)) (h2:(c.toNat:Int)≤57) :
 Calls Tryz.prog 209 #[.int .u8 (c.toNat:Int)] w fun e w'=>e=.returned (.bool true)∧w=w':=by
 go_enter Tryz.func209,Tryz.ntmps209;go_wp2;go_ret;exact⟨by simp[h1,h2],rfl⟩
theorem jd8 (c:UInt8) (w:World) (h:(c.toNat:Int)<48∨57<(c.toNat:Int)) :
 Calls Tryz.prog 209 #[.int .u8 (c.toNat:Int)] w fun e w'=>e=.returned (.bool false)∧w=w':=by
 by_cases h1:(c.toNat:Int)<48
 · go_enter Tryz.func209,Tryz.ntmps209;go_wp2;go_ret;exact⟨rfl,rfl⟩
 · have h2:57<(c.toNat:Int):=by omega
   have h3:48≤(c.toNat:Int):=by omega
   have h4:decide ((c.toNat:Int)≤57)=false:=by simpa using h2
   clear h h1;go_enter Tryz.func209,Tryz.ntmps209;go_wp2;go_ret;exact⟨rfl,rfl⟩
theorem jo (s:ByteArray) (w:World) (hs:s.size≤maxLen) :
 Calls Tryz.prog 158 #[.string s] w fun e w'=>e=.returned (.bool (isName s))∧w=w':=by
 unfold maxLen at hs;by_cases h1:1≤s.size
 · by_cases h2:s.size≤12
   · by_cases hall:s.data.toList.all Zu=true
     · have HV:=lH (show isName s=true by simp[isName,h1,h2,hall]);have HA:=lH (jiM hall);clear hall;go_enter Tryz.func158,Tryz.ntmps158;go_wp2;go_loop [3] (fun i=>∃k:Nat,k≤s.size∧i=.int .i64 k) (fun i=>s.size-(intOf i).toNat)
       case atStart=>exact⟨0,Nat.zero_le _,rfl⟩
       case round =>
        obtain⟨k,hk,rfl⟩:=hrel;by_cases hlt:k<s.size
        · have hok:=(ZB _).1 (HA.out k hlt);by_cases c1:(s[k].toNat:Int)<97
          · have c2:48≤(s[k].toNat:Int):=by omega
            have c3:(s[k].toNat:Int)≤57:=by omega
            clear hok;go_wp2;go_round
            case rel=>exact⟨k+1,by omega,by go_num⟩
            case measure=>simp[intOf];omega
          · have c2:(s[k].toNat:Int)≤122:=by omega
            clear hok;go_wp2;go_round
            case rel=>exact⟨k+1,by omega,by go_num⟩
            case measure=>simp[intOf];omega
        · go_wp2;go_ret;exact⟨jf HV.out.symm,rfl⟩
     · have HV:=lH (show isName s=false by simp only[isName,Bool.and_eq_false_iff];exact .inr (by simpa using hall));obtain⟨j,hj,hbad⟩:=jcg hall;have HB:=lH hbad;clear hall hbad;go_enter Tryz.func158,Tryz.ntmps158;go_wp2;go_loop [3] (fun i=>∃k:Nat,k≤j∧i=.int .i64 k) (fun i=>s.size-(intOf i).toNat)
       case atStart=>exact⟨0,Nat.zero_le _,rfl⟩
       case round =>
        obtain⟨k,hk,rfl⟩:=hrel;have hlt:k<s.size:=by omega
        by_cases hok:Zu s[k]=true
        · have hkj:k+1≤j:=by
           rcases Nat.lt_or_eq_of_le hk with g | g
           · exact g
           · subst g;rw[HB.out] at hok;cases hok
          have hok:=(ZB _).1 hok;by_cases c1:(s[k].toNat:Int)<97
          · have c2:48≤(s[k].toNat:Int):=by omega
            have c3:(s[k].toNat:Int)≤57:=by omega
            clear hok;go_wp2;go_round
            case rel=>exact⟨k+1,by omega,by go_num⟩
            case measure=>simp[intOf];omega
          · have c2:(s[k].toNat:Int)≤122:=by omega
            clear hok;go_wp2;go_round
            case rel=>exact⟨k+1,by omega,by go_num⟩
            case measure=>simp[intOf];omega
        · have hbad:¬((97≤(s[k].toNat:Int)∧(s[k].toNat:Int)≤122)∨(48≤(s[k].toNat:Int)∧(s[k].toNat:Int)≤57)):=fun g=>hok ((ZB _).2 g);clear hok;by_cases c1:(s[k].toNat:Int)<97
          · by_cases c2:(s[k].toNat:Int)<48
            · clear hbad;go_wp2;go_ret;exact⟨jf HV.out.symm,rfl⟩
            · have c3:57<(s[k].toNat:Int):=by omega
              clear hbad;go_wp2;go_ret;exact⟨jf HV.out.symm,rfl⟩
          · have c2:122<(s[k].toNat:Int):=by omega
            have c3:57<(s[k].toNat:Int):=by omega
            have c4:¬(s[k].toNat:Int)<48:=by omega
            clear hbad;go_wp2;go_ret;exact⟨jf HV.out.symm,rfl⟩
   · have HV:=lH (show isName s=false by simp[isName,h2]);have h3:12<s.size:=by omega
     clear h2;go_enter Tryz.func158,Tryz.ntmps158;go_wp2;go_ret;exact⟨jf HV.out.symm,rfl⟩
 · have HV:=lH (show isName s=false by simp[isName,h1]);have h3:s.size<1:=by omega
   clear h1;go_enter Tryz.func158,Tryz.ntmps158;go_wp2;go_ret;exact⟨jf HV.out.symm,rfl⟩
theorem Xc (s:ByteArray) (w:World) (hs:s.size≤maxLen) :
 Calls Tryz.prog 174 #[.string s] w fun e w'=>e=.returned (.bool (isName s))∧w=w':=by
 unfold maxLen at hs;by_cases h1:1≤s.size
 · have hne:(s.toList==([]:List UInt8))=false:=by
    rw[Lib.toList_data]
    cases hl:s.data.toList with
    | nil=>have:s.size=0:=by rw[←ByteArray.size_data,←Array.length_toList,hl];rfl
           omega
    | cons x t=>rfl
   by_cases h2:s.size≤12
   · by_cases hall:s.data.toList.all Zu=true
     · have HV:=lH (show isName s=true by simp[isName,h1,h2,hall]);have HA:=lH (jiM hall);clear hall;go_enter Tryz.func174,Tryz.ntmps174;go_wp2;go_loop [14] (fun i=>∃k:Nat,k≤s.size∧i=.int .i64 k) (fun i=>s.size-(intOf i).toNat)
       case atStart=>exact⟨0,Nat.zero_le _,rfl⟩
       case round =>
        obtain⟨k,hk,rfl⟩:=hrel;by_cases hlt:k<s.size
        · have hok:=(ZB _).1 (HA.out k hlt);by_cases c1:97≤(s[k].toNat:Int)
          · have c2:(s[k].toNat:Int)≤122:=by omega
            clear hok;go_wp2;go_round
            case rel=>exact⟨k+1,by omega,by go_num⟩
            case measure=>simp[intOf];omega
          · have c2:48≤(s[k].toNat:Int):=by omega
            have c3:(s[k].toNat:Int)≤57:=by omega
            clear hok;go_wp2_with (go_at_call 209;refine(jc6 _ _ c2 c3).mono ?_;rintro e w' ⟨rfl,rfl⟩)
            go_round
            case rel=>exact⟨k+1,by omega,by go_num⟩
            case measure=>simp[intOf];omega
        · go_wp2;go_ret;exact⟨jf HV.out.symm,rfl⟩
     · have HV:=lH (show isName s=false by simp only[isName,Bool.and_eq_false_iff];exact .inr (by simpa using hall));obtain⟨j,hj,hbad⟩:=jcg hall;have HB:=lH hbad;clear hall hbad;go_enter Tryz.func174,Tryz.ntmps174;go_wp2;go_loop [14] (fun i=>∃k:Nat,k≤j∧i=.int .i64 k) (fun i=>s.size-(intOf i).toNat)
       case atStart=>exact⟨0,Nat.zero_le _,rfl⟩
       case round =>
        obtain⟨k,hk,rfl⟩:=hrel;have hlt:k<s.size:=by omega
        by_cases hok:Zu s[k]=true
        · have hkj:k+1≤j:=by
           rcases Nat.lt_or_eq_of_le hk with g | g
           · exact g
           · subst g;rw[HB.out] at hok;cases hok
          have hok:=(ZB _).1 hok;by_cases c1:97≤(s[k].toNat:Int)
          · have c2:(s[k].toNat:Int)≤122:=by omega
            clear hok;go_wp2;go_round
            case rel=>exact⟨k+1,by omega,by go_num⟩
            case measure=>simp[intOf];omega
          · have c2:48≤(s[k].toNat:Int):=by omega
            have c3:(s[k].toNat:Int)≤57:=by omega
            clear hok;go_wp2_with (go_at_call 209;refine(jc6 _ _ c2 c3).mono ?_;rintro e w' ⟨rfl,rfl⟩)
            go_round
            case rel=>exact⟨k+1,by omega,by go_num⟩
            case measure=>simp[intOf];omega
        · have hbad:¬((97≤(s[k].toNat:Int)∧(s[k].toNat:Int)≤122)∨(48≤(s[k].toNat:Int)∧(s[k].toNat:Int)≤57)):=fun g=>hok ((ZB _).2 g);have c4:(s[k].toNat:Int)<48∨57<(s[k].toNat:Int):=by omega
          have C4:=lH c4;clear hok;by_cases c1:97≤(s[k].toNat:Int)
          · have c2:decide ((s[k].toNat:Int)≤122)=false:=by
             have:122<(s[k].toNat:Int):=by omega
             simpa using this
            clear hbad c4;go_wp2_with (go_at_call 209;refine(jd8 _ _ C4.out).mono ?_;rintro e w' ⟨rfl,rfl⟩)
            go_ret;exact⟨jf HV.out.symm,rfl⟩
          · clear hbad c4;go_wp2_with (go_at_call 209;refine(jd8 _ _ C4.out).mono ?_;rintro e w' ⟨rfl,rfl⟩)
            go_ret;exact⟨jf HV.out.symm,rfl⟩
   · have HV:=lH (show isName s=false by simp[isName,h2]);have h3:12<s.size:=by omega
     clear h2;go_enter Tryz.func174,Tryz.ntmps174;go_wp2;go_ret;exact⟨jf HV.out.symm,rfl⟩
 · have HV:=lH (show isName s=false by simp[isName,h1]);have h0:s=ByteArray.empty:=by
    have:s.size=0:=by omega
    exact jdA this
   subst h0;clear h1;go_enter Tryz.func174,Tryz.ntmps174;go_wp2;go_ret;exact⟨jf HV.out.symm,rfl⟩
end Go.Proofs.YtibepooajeakfaaGreat
namespace Go.Proofs
open Go.Shelf
def Tryz.lays114_ren:Go.Shelf.Ren:=⟨fun | 114=>254 | n=>n,fun | 28=>193 | 3=>3 | 4=>4 | 9=>9 | 20=>20 | 0=>0 | n=>n,fun | n=>n⟩
theorem Tryz.lays114:Go.Proofs.Lays.n114 Tryz.prog Tryz.lays114_ren:={
 mixed:=by kernel_rfl
 f114:=Tryz.func254.trans (congrArg some (by kernel_rfl))
 t0:=Tryz.underlying0
 a0:=Tryz.isAgg0
 z0:=Tryz.sizeOf0
 v0:=Tryz.zeroValue0
 t3:=Tryz.underlying3
 a3:=Tryz.isAgg3
 z3:=Tryz.sizeOf3
 v3:=Tryz.zeroValue3
 t4:=Tryz.underlying4
 a4:=Tryz.isAgg4
 z4:=Tryz.sizeOf4
 v4:=Tryz.zeroValue4
 t9:=Tryz.underlying9
 a9:=Tryz.isAgg9
 z9:=Tryz.sizeOf9
 v9:=Tryz.zeroValue9
 t20:=Tryz.underlying20
 a20:=Tryz.isAgg20
 z20:=Tryz.sizeOf20
 v20:=Tryz.zeroValue20
 t28:=Tryz.underlying193
 a28:=Tryz.isAgg193
 z28:=Tryz.sizeOf193
 v28:=Tryz.zeroValue193 }
open Go.Lib in
theorem Tryz.slices_Min_int (b off n c:Nat) (zs:List Int) (w:World) (hn:0<n) (hz:n≤zs.length) (hbig:n≤9223372036854775807) (hc:∀j,j<zs.length→w.cell? ⟨b,off+j,none⟩=some (.int .i64 (zs.getD j 0))) :
 Calls Tryz.prog 254 #[.slice (some ⟨b,off,none⟩) n c] w fun e w'=>e=.returned (.int .i64 (Lib.minOf (zs.take n)))∧w'=w:=Any.slices_Min_int Tryz.lays114 b off n c zs w hn hz hbig hc
end Go.Proofs
namespace Go.Proofs.YtibepooajeakfaaGreat.Vec
open Go.RowKit
def YI (v x:Int) (w:World) (e:Ending) (w':World):Prop:=e=.returned (.tuple #[.int .i64 v,.int .i64 x])∧w=w'
def Ans (v x:Int) (w:World) (e:Ending) (w':World):Prop:=e=.returned (.tuple #[.int .i64 v,.int .i64 x])∧Kept w w'
theorem YI.ans {v x:Int} {w:World} {e:Ending} {w':World} (h:YI v x w e w'):Ans v x w e w':=by
 obtain⟨rfl,rfl⟩:=h;exact⟨rfl,Kept.refl _⟩
theorem jj6 (a b:Int) (w:World) (ha:0≤a) (hb:0≤b) (hb':b≤9223372036854775807) (h:9223372036854775807<a+b):Calls Tryz.prog 191 #[.int .i64 a,.int .i64 b] w (YI 0 5 w):=by
 go_enter Tryz.func191,Tryz.ntmps191;go_wp2;go_ret2
 exact⟨rfl,rfl⟩
theorem jmu (a b:Int) (w:World) (ha:0≤a) (hb:0≤b) (h:a+b≤9223372036854775807):Calls Tryz.prog 191 #[.int .i64 a,.int .i64 b] w (YI (a+b) 0 w):=by
 go_enter Tryz.func191,Tryz.ntmps191;go_wp2;go_ret2
 exact⟨rfl,rfl⟩
theorem jkK (a b:Int) (w:World) (ha:0≤a) (hb':b≤9223372036854775807) (h:a<b):Calls Tryz.prog 258 #[.int .i64 a,.int .i64 b] w (YI 0 5 w):=by
 go_enter Tryz.func258,Tryz.ntmps258;go_wp2;go_ret2
 exact⟨rfl,rfl⟩
theorem jmj (a b:Int) (w:World) (hb:0≤b) (ha':a≤9223372036854775807) (h:b≤a):Calls Tryz.prog 258 #[.int .i64 a,.int .i64 b] w (YI (a-b) 0 w):=by
 go_enter Tryz.func258,Tryz.ntmps258;go_wp2;go_ret2
 exact⟨rfl,rfl⟩
abbrev V:=List (ByteArray×Int)
def nm (l:V) (i:Nat):ByteArray:=(l.getD i (ByteArray.empty,0)).1
def qn (l:V) (i:Nat):Int:=(l.getD i (ByteArray.empty,0)).2
def zY (l:V):Prop:=∀i,i<l.length→(nm l i).size≤maxLen∧-9223372036854775808≤qn l i∧qn l i≤9223372036854775807
def ju (w:World) (a:Option Addr) (len:Nat) (l:V):Prop :=
 l.length=len∧len≤maxLen∧zY l ∧
  (len=0∨∃b off,a=some ⟨b,off,none⟩∧b<w.heap.size ∧
    ∀i,i<len→w.cell? ⟨b,off+i*2,none⟩=some (.string (nm l i))∧w.cell? ⟨b,off+i*2+1,none⟩=some (.int .i64 (qn l i)))
theorem ju.kept {w w':World} {a:Option Addr} {len:Nat} {l:V} (h:ju w a len l) (k:Kept w w'):ju w' a len l:=by
 obtain⟨h0,h1,h2,h3⟩:=h;refine⟨h0,h1,h2,h3.imp id ?_⟩;rintro ⟨b,off,ha,hb,hc⟩;exact⟨b,off,ha,Nat.lt_of_lt_of_le hb k.size,fun i hi =>
  ⟨(Below.cell k (p:=⟨b,off+i*2,none⟩) hb).trans (hc i hi).1,(Below.cell k (p:=⟨b,off+i*2+1,none⟩) hb).trans (hc i hi).2⟩⟩
theorem ju.nil (w:World):ju w none 0 []:=⟨rfl,by decide,fun i hi=>absurd hi (by simp),.inl rfl⟩
theorem drop_cons {l:V} {k:Nat} (h:k<l.length):l.drop k=(nm l k,qn l k)::l.drop (k+1):=by
 rw[List.drop_eq_getElem_cons h];have:l.getD k (ByteArray.empty,0)=l[k]:=by simp[List.getD,h]
 simp only[nm,qn,this]
theorem ju.cells {w:World} {b off len:Nat} {l:V} {k:Nat} (h:ju w (some ⟨b,off,none⟩) len l) (hk:k<len) :
 b<w.heap.size∧w.cell? ⟨b,off+k*2,none⟩=some (.string (nm l k))∧w.cell? ⟨b,off+k*2+1,none⟩=some (.int .i64 (qn l k)):=by
 obtain⟨_,_,_,h3⟩:=h;rcases h3 with h3 | ⟨b',off',e,hb,hc⟩
 · omega
 · injection e with e;injection e with e1 e2 e3;subst e1;subst e2;exact⟨hb,hc k hk⟩
theorem ju.form {w:World} {a:Option Addr} {len:Nat} {l:V} (h:ju w a len l):len=0∨∃b off,a=some ⟨b,off,none⟩:=by
 obtain⟨_,_,_,h3⟩:=h;exact h3.imp id fun ⟨b,off,e,_⟩=>⟨b,off,e⟩
def Yo (l:V) (k:Nat):Option ByteArray:=if k=0 then none else some (nm l (k-1))
def jG (prev:Option ByteArray) (s:ByteArray):Bool:=match prev with | none=>false | some p=>leS s p
def jJ:Option ByteArray→V→Int
 | _,[]=>0
 | prev,x::t=>if isName x.1=false then 3 else if x.2≤0 then 1 else if jG prev x.1=true then 13 else jJ (some x.1) t
def jv (l:V):Int:=if 8<l.length then 4 else jJ none l
theorem YM {l:V} {k:Nat} (h:k=0) (s:ByteArray):jG (Yo l k) s=false:=by unfold Yo;rw[if_pos h];rfl
theorem YK {l:V} {k:Nat} (h:¬k=0) (s:ByteArray):jG (Yo l k) s=leS s (nm l (k-1)):=by unfold Yo;rw[if_neg h];rfl
theorem XK (l:V) (k:Nat):Yo l (k+1)=some (nm l k):=by unfold Yo;rw[if_neg (by omega)];rfl
theorem Xg {l:V} {k:Nat} {p:Option ByteArray} (h:k<l.length) (n1:isName (nm l k)=false):jJ p (l.drop k)=3:=by
 rw[drop_cons h,jJ,if_pos n1]
theorem jgx {l:V} {k:Nat} {p:Option ByteArray} (h:k<l.length) (n1:isName (nm l k)=true) (n2:qn l k≤0):jJ p (l.drop k)=1:=by
 rw[drop_cons h,jJ,if_neg (by rw[n1];decide),if_pos n2]
theorem XN {l:V} {k:Nat} {p:Option ByteArray} (h:k<l.length) (n1:isName (nm l k)=true) (n2:0<qn l k) (n3:jG p (nm l k)=true):jJ p (l.drop k)=13:=by
 rw[drop_cons h,jJ,if_neg (by rw[n1];decide),if_neg (by omega),if_pos n3]
theorem ZV {l:V} {k:Nat} {p:Option ByteArray} (h:k<l.length) (n1:isName (nm l k)=true) (n2:0<qn l k) (n3:jG p (nm l k)=false):jJ p (l.drop k)=jJ (Yo l (k+1)) (l.drop (k+1)):=by
 rw[drop_cons h,jJ,if_neg (by rw[n1];decide),if_neg (by omega),if_neg (by rw[n3];decide),XK]
theorem jgw {l:V} {k:Nat} {p:Option ByteArray} (h:¬k<l.length):jJ p (l.drop k)=0:=by
 rw[List.drop_of_length_le (by omega),jJ]
theorem Yj (a:Option Addr) (len cap:Nat) (l:V) (w:World) (hr:ju w a len l) :
 Calls Tryz.prog 159 #[.slice a len cap] w fun e w'=>e=.returned (.int .i64 (jv l))∧Kept w w':=by
 have hl:=hr.1;have hm:=hr.2.1;unfold maxLen at hm;have hf:=hr.2.2.1;by_cases h8:len≤8
 · have HV:=lH (show jv l=jJ none l by unfold jv;rw[if_neg (by omega)]);rcases hr.form with h0 | ⟨b,off,rfl⟩
   · subst h0;have HE:=lH (show jv l=0 by rw[HV.out];rw[List.eq_nil_of_length_eq_zero hl];rfl);clear hr hl hf;go_enter Tryz.func159,Tryz.ntmps159;go_wp2;refine wp_loop_rounds 1 ?_;rw[rounds_succ];go_wp2;go_ret;exact⟨jc HE.out.symm,Kept.refl _⟩
   · obtain⟨HF,HR,HL⟩:=lH3 hf hr hl;clear hf hr hl;go_enter Tryz.func159,Tryz.ntmps159;go_wp2;go_loopw [3] (fun i wr=>∃k:Nat,k≤len∧i=.int .i64 k∧jJ (Yo l k) (l.drop k)=jJ none l∧Kept w wr) (fun i _=>len-(intOf i).toNat)
     case atStart=>exact⟨0,Nat.zero_le _,rfl,rfl,Kept.refl _⟩
     case round =>
      obtain⟨k,hk,rfl,hrest,hK⟩:=hrel;by_cases hlt:k<len
      · obtain⟨HK,HS,HT⟩:=lH3 hK (HV.out.trans hrest.symm) hrest;obtain⟨hb,c1,c2⟩:=(HR.out.kept hK).cells hlt;clear hK hrest;have hz:(nm l k).size≤maxLen:=(HF.out k (by rw[HL.out];exact hlt)).1;have HI:=lH (show k<l.length by rw[HL.out];exact hlt);by_cases n1:isName (nm l k)=true
        · have N1:=lH n1;by_cases n2:qn l k≤0
          · have N2:=lH n2;go_wp2_with (go_at_call 158;refine(jo _ _ hz).mono ?_;rintro e w' ⟨rfl,rfl⟩)
            go_ret;exact⟨jc (HS.out.trans (jgx HI.out N1.out N2.out)).symm,HK.out⟩
          · have n2:0<qn l k:=by omega
            have N2:=lH n2;by_cases h0:k=0
            · have hd:decide (0<k)=false:=by subst h0;decide
              have HP:=lH (YM (l:=l) h0 (nm l k));clear h0;go_wp2_with (go_at_call 158;refine(jo _ _ hz).mono ?_;rintro e w' ⟨rfl,rfl⟩)
              go_quiet (fail)
              go_wp2;go_roundw
              case rel=>exact⟨k+1,by omega,by go_num,(ZV HI.out N1.out N2.out HP.out).symm.trans HT.out,HK.out.trans (Kept.drewN _ _)⟩
              case measure=>simp[intOf];omega
            · have hd:decide (0<k)=true:=by simp;omega
              have g1:0≤(k:Int)-1:=by omega
              have g2:(k:Int)-1<(len:Int):=by omega
              have g3:((k:Int)-1).toNat=k-1:=by omega
              have HP:=lH (YK (l:=l) h0 (nm l k));obtain⟨_,d1,d2⟩:=(HR.out.kept HK.out).cells (show k-1<len by omega);by_cases n3:leS (nm l k) (nm l (k-1))=true
              · have n3':(Op.bytesLess (nm l k).toList (nm l (k-1)).toList||(nm l k).toList==(nm l (k-1)).toList)=true:=n3;have N3:=lH n3;clear n3;go_wp2_with (go_at_call 158;refine(jo _ _ hz).mono ?_;rintro e w' ⟨rfl,rfl⟩)
                go_quiet (fail)
                go_wp2;go_ret;exact⟨jc (HS.out.trans (XN HI.out N1.out N2.out (HP.out.trans N3.out))).symm,HK.out.trans (Kept.drewN _ _)⟩
              · have n3:leS (nm l k) (nm l (k-1))=false:=by simpa using n3
                have n3':(Op.bytesLess (nm l k).toList (nm l (k-1)).toList||(nm l k).toList==(nm l (k-1)).toList)=false:=n3;have N3:=lH n3;clear n3;go_wp2_with (go_at_call 158;refine(jo _ _ hz).mono ?_;rintro e w' ⟨rfl,rfl⟩)
                go_quiet (fail)
                go_wp2;go_roundw
                case rel=>exact⟨k+1,by omega,by go_num,(ZV HI.out N1.out N2.out (HP.out.trans N3.out)).symm.trans HT.out,HK.out.trans (Kept.drewN _ _)⟩
                case measure=>simp[intOf];omega
        · have n1:isName (nm l k)=false:=by simpa using n1
          have N1:=lH n1;go_wp2_with (go_at_call 158;refine(jo _ _ hz).mono ?_;rintro e w' ⟨rfl,rfl⟩)
          go_ret;exact⟨jc (HS.out.trans (Xg HI.out N1.out)).symm,HK.out⟩
      · obtain⟨HK,HS,HI⟩:=lH3 hK (HV.out.trans hrest.symm) (show ¬k<l.length by rw[HL.out];exact hlt);clear hK hrest;go_wp2;go_ret;exact⟨jc (HS.out.trans (jgw HI.out)).symm,HK.out⟩
 · have HV:=lH (show jv l=4 by unfold jv;rw[if_pos (by omega)]);have h9:8<len:=by omega
   clear h8 hr hl hf;go_enter Tryz.func159,Tryz.ntmps159;go_wp2;go_ret;exact⟨jc HV.out.symm,Kept.refl _⟩
theorem jaE (a:Option Addr) (len cap:Nat) (w:World) (h:len≤8) :
 Calls Tryz.prog 223 #[.slice a len cap] w fun e w'=>e=.returned (.tuple #[])∧w=w':=by
 go_enter Tryz.func223,Tryz.ntmps223;go_wp2;go_end0
 exact⟨rfl,rfl⟩
theorem jbn (a:Option Addr) (len cap:Nat) (w:World) (h:8<len) (hm:len≤9223372036854775807) :
 Calls Tryz.prog 223 #[.slice a len cap] w fun e w'=>e=.panicked [zo 4]∧w=w':=by
 go_enter Tryz.func223,Tryz.ntmps223;go_wp2;exact⟨rfl,rfl,rfl⟩
def Chk (l:V) (v:Value) (w:World) (e:Ending) (w':World):Prop :=
 (jv l=0→e=.returned v)∧(jv l≠0→e=.panicked [zo (jv l)])∧Kept w w'
theorem Chk.good {l:V} {v:Value} {w w':World} (h:jv l=0) (k:Kept w w'):Chk l v w (.returned v) w':=⟨fun _=>rfl,fun g=>absurd h g,k⟩
theorem Chk.bad {l:V} {v:Value} {w w':World} {c:Int} (h:jv l=c) (hc:c≠0) (k:Kept w w'):Chk l v w (.panicked [zo c]) w':=⟨fun g=>absurd (h.symm.trans g) hc,fun _=>by rw[h],k⟩
theorem zQ (a:Option Addr) (len cap:Nat) (l:V) (w:World) (hr:ju w a len l) :
 Calls Tryz.prog 211 #[.slice a len cap] w (Chk l (.slice a len cap) w):=by
 have hl:=hr.1;have hm:=hr.2.1;unfold maxLen at hm;have hm':len≤9223372036854775807:=by omega
 have hf:=hr.2.2.1;by_cases h8:len≤8
 · have HV:=lH (show jv l=jJ none l by unfold jv;rw[if_neg (by omega)]);rcases hr.form with h0 | ⟨b,off,rfl⟩
   · subst h0;have HE:=lH (show jv l=0 by rw[HV.out];rw[List.eq_nil_of_length_eq_zero hl];rfl);clear hr hl hf;go_enter Tryz.func211,Tryz.ntmps211;go_wp2_with (go_at_call 223;refine(jaE _ _ _ _ (by omega)).mono ?_;rintro e w' ⟨rfl,rfl⟩)
     refine wp_loop_rounds 1 ?_;rw[rounds_succ];go_wp2;go_ret;exact Chk.good HE.out (Kept.refl _)
   · obtain⟨HF,HR,HL⟩:=lH3 hf hr hl;clear hf hr hl;go_enter Tryz.func211,Tryz.ntmps211;go_wp2_with (go_at_call 223;refine(jaE _ _ _ _ h8).mono ?_;rintro e w' ⟨rfl,rfl⟩)
     go_loopw [9] (fun i wr=>∃k:Nat,k≤len∧i=.int .i64 k∧jJ (Yo l k) (l.drop k)=jJ none l∧Kept w wr) (fun i _=>len-(intOf i).toNat)
     case atStart=>exact⟨0,Nat.zero_le _,rfl,rfl,Kept.refl _⟩
     case round =>
      obtain⟨k,hk,rfl,hrest,hK⟩:=hrel;by_cases hlt:k<len
      · obtain⟨HK,HS,HT⟩:=lH3 hK (HV.out.trans hrest.symm) hrest;obtain⟨hb,c1,c2⟩:=(HR.out.kept hK).cells hlt;clear hK hrest;have hz:(nm l k).size≤maxLen:=(HF.out k (by rw[HL.out];exact hlt)).1;have HI:=lH (show k<l.length by rw[HL.out];exact hlt);by_cases n1:isName (nm l k)=true
        · have N1:=lH n1;by_cases n2:qn l k≤0
          · have N2:=lH n2;go_wp2_with (go_at_call 174;refine(Xc _ _ hz).mono ?_;rintro e w' ⟨rfl,rfl⟩)
            exact⟨rfl,Chk.bad (HS.out.trans (jgx HI.out N1.out N2.out)) (by decide) (HK.out.trans (ja _ _))⟩
          · have n2:0<qn l k:=by omega
            have N2:=lH n2;by_cases h0:k=0
            · have hd:decide (0<k)=false:=by subst h0;decide
              have HP:=lH (YM (l:=l) h0 (nm l k));clear h0;go_wp2_with (go_at_call 174;refine(Xc _ _ hz).mono ?_;rintro e w' ⟨rfl,rfl⟩)
              go_quiet (fail)
              go_wp2;go_roundw
              case rel=>exact⟨k+1,by omega,by go_num,(ZV HI.out N1.out N2.out HP.out).symm.trans HT.out,(HK.out.trans (Yi _ _ _))⟩
              case measure=>simp[intOf];omega
            · have hd:decide (0<k)=true:=by simp;omega
              have g1:0≤(k:Int)-1:=by omega
              have g2:(k:Int)-1<(len:Int):=by omega
              have g3:((k:Int)-1).toNat=k-1:=by omega
              have HP:=lH (YK (l:=l) h0 (nm l k));obtain⟨_,d1,d2⟩:=(HR.out.kept HK.out).cells (show k-1<len by omega);by_cases n3:leS (nm l k) (nm l (k-1))=true
              · have n3':(Op.bytesLess (nm l k).toList (nm l (k-1)).toList||(nm l k).toList==(nm l (k-1)).toList)=true:=n3;have N3:=lH n3;clear n3;go_wp2_with (go_at_call 174;refine(Xc _ _ hz).mono ?_;rintro e w' ⟨rfl,rfl⟩)
                go_quiet (fail)
                go_wp2;exact⟨rfl,Chk.bad (HS.out.trans (XN HI.out N1.out N2.out (HP.out.trans N3.out))) (by decide) (HK.out.trans (Yi _ _ _))⟩
              · have n3:leS (nm l k) (nm l (k-1))=false:=by simpa using n3
                have n3':(Op.bytesLess (nm l k).toList (nm l (k-1)).toList||(nm l k).toList==(nm l (k-1)).toList)=false:=n3;have N3:=lH n3;clear n3;go_wp2_with (go_at_call 174;refine(Xc _ _ hz).mono ?_;rintro e w' ⟨rfl,rfl⟩)
                go_quiet (fail)
                go_wp2;go_roundw
                case rel=>exact⟨k+1,by omega,by go_num,(ZV HI.out N1.out N2.out (HP.out.trans N3.out)).symm.trans HT.out,(HK.out.trans (Yi _ _ _))⟩
                case measure=>simp[intOf];omega
        · have n1:isName (nm l k)=false:=by simpa using n1
          have N1:=lH n1;go_wp2_with (go_at_call 174;refine(Xc _ _ hz).mono ?_;rintro e w' ⟨rfl,rfl⟩)
          exact⟨rfl,Chk.bad (HS.out.trans (Xg HI.out N1.out)) (by decide) (HK.out.trans (ja _ _))⟩
      · obtain⟨HK,HS,HI⟩:=lH3 hK (HV.out.trans hrest.symm) (show ¬k<l.length by rw[HL.out];exact hlt);clear hK hrest;go_wp2;go_ret;exact Chk.good (HS.out.trans (jgw HI.out)) HK.out
 · have HV:=lH (show jv l=4 by unfold jv;rw[if_pos (by omega)]);have h9:8<len:=by omega
   clear h8 hr hl hf hm;go_enter Tryz.func211,Tryz.ntmps211;go_wp2_with (go_at_call 223;refine(jbn _ _ _ _ h9 hm').mono ?_;rintro e w' ⟨rfl,rfl⟩)
   exact⟨rfl,Chk.bad HV.out (by decide) (Kept.refl _)⟩
def jh:V→ByteArray→Int
 | [],_=>0
 | x::t,n=>if eqS x.1 n=true then x.2 else jh t n
theorem jdU {l:V} {k:Nat} {n:ByteArray} (h:k<l.length) (e:eqS (nm l k) n=true):jh (l.drop k) n=qn l k:=by rw[drop_cons h,jh,if_pos e]
theorem jel {l:V} {k:Nat} {n:ByteArray} (h:k<l.length) (e:eqS (nm l k) n=false):jh (l.drop k) n=jh (l.drop (k+1)) n:=by rw[drop_cons h,jh,if_neg (by rw[e];decide)]
theorem jgk {l:V} {k:Nat} {n:ByteArray} (h:¬k<l.length):jh (l.drop k) n=0:=by rw[List.drop_of_length_le (by omega),jh]
theorem Y9 (a:Option Addr) (len cap:Nat) (l:V) (n:ByteArray) (w:World) (hr:ju w a len l) :
 Calls Tryz.prog 147 #[.slice a len cap,.string n] w fun e w'=>e=.returned (.int .i64 (jh l n))∧Kept w w':=by
 have hl:=hr.1;have hm:=hr.2.1;unfold maxLen at hm;rcases hr.form with h0 | ⟨b,off,rfl⟩
 · subst h0;have HE:=lH (show jh l n=0 by rw[List.eq_nil_of_length_eq_zero hl];rfl);clear hr hl;go_enter Tryz.func147,Tryz.ntmps147;go_wp2;refine wp_loop_rounds 1 ?_;rw[rounds_succ];go_wp2;go_ret;exact⟨jc HE.out.symm,Kept.refl _⟩
 · have HR:=lH hr;have HL:=lH hl;clear hr hl;go_enter Tryz.func147,Tryz.ntmps147;go_wp2;go_loopw [9] (fun i wr=>∃k:Nat,k≤len∧i=.int .i64 k∧jh (l.drop k) n=jh l n∧Kept w wr) (fun i _=>len-(intOf i).toNat)
   case atStart=>exact⟨0,Nat.zero_le _,rfl,rfl,Kept.refl _⟩
   case round =>
    obtain⟨k,hk,rfl,hrest,hK⟩:=hrel;have HK:=lH hK;have HS:=lH hrest;by_cases hlt:k<len
    · obtain⟨hb,c1,c2⟩:=(HR.out.kept hK).cells hlt;clear hK hrest;have HI:=lH (show k<l.length by rw[HL.out];exact hlt);by_cases e:eqS (nm l k) n=true
      · have E:=lH e;have e':((nm l k).toList==n.toList)=true:=e;clear e;go_wp2;go_ret;exact⟨jc (HS.out.symm.trans (jdU HI.out E.out)).symm,HK.out.trans (ja _ _)⟩
      · have e:eqS (nm l k) n=false:=by simpa using e
        have E:=lH e;have e':((nm l k).toList==n.toList)=false:=e;clear e;go_wp2;go_roundw
        case rel=>exact⟨k+1,by omega,by go_num,(jel HI.out E.out).symm.trans HS.out,HK.out.trans (ja _ _)⟩
        case measure=>simp[intOf];omega
    · have HI:=lH (show ¬k<l.length by rw[HL.out];exact hlt);clear hK hrest;go_wp2;go_ret;exact⟨jc (HS.out.symm.trans (jgk HI.out)).symm,HK.out⟩
def JG:V→Bool
 | []=>true
 | x::t=>decide (x.1.size≤50)&&JG t
def Yf (l:V):Bool:=decide (l.length≤20)&&JG l
theorem jcD (a:Option Addr) (len cap:Nat) (l:V) (w:World) (hr:ju w a len l) :
 Calls Tryz.prog 108 #[.slice a len cap] w fun e w'=>e=.returned (.bool (Yf l))∧w=w':=by
 have hl:=hr.1;have hm:=hr.2.1;have hf:=hr.2.2.1;unfold maxLen at hm;by_cases h20:len≤20
 · have HV:=lH (show Yf l=JG l by unfold Yf;rw[decide_eq_true (by omega)];rfl);rcases hr.form with h0 | ⟨b,off,rfl⟩
   · subst h0;have HE:=lH (show Yf l=true by rw[HV.out,List.eq_nil_of_length_eq_zero hl];rfl);clear hr hl hf;go_enter Tryz.func108,Tryz.ntmps108;go_wp2;refine wp_loop_rounds 1 ?_;rw[rounds_succ];go_wp2;go_ret;exact⟨jf HE.out.symm,rfl⟩
   · obtain⟨HR,HL,HF⟩:=lH3 hr hl hf;clear hr hl hf;go_enter Tryz.func108,Tryz.ntmps108;go_wp2;go_loop [3] (fun i=>∃k:Nat,k≤len∧i=.int .i64 k∧JG (l.drop k)=JG l) (fun i=>len-(intOf i).toNat)
     case atStart=>exact⟨0,Nat.zero_le _,rfl,rfl⟩
     case round =>
      obtain⟨k,hk,rfl,hrest⟩:=hrel;have HS:=lH hrest;clear hrest;by_cases hlt:k<len
      · obtain⟨hb,c1,c2⟩:=HR.out.cells hlt;have HI:=lH (show k<l.length by rw[HL.out];exact hlt);have hz:=(HF.out k HI.out).1;unfold maxLen at hz;by_cases e:(nm l k).size≤50
        · have E:=lH (show JG (l.drop k)=JG (l.drop (k+1)) by rw[drop_cons HI.out,JG,decide_eq_true e];rfl);go_wp2;go_round
          case rel=>exact⟨k+1,by omega,by go_num,E.out.symm.trans HS.out⟩
          case measure=>simp[intOf];omega
        · have E:=lH (show JG (l.drop k)=false by rw[drop_cons HI.out,JG,decide_eq_false e];rfl);have e':50<(nm l k).size:=by omega
          clear e;go_wp2;go_ret;exact⟨jf (HV.out.trans (HS.out.symm.trans E.out)).symm,rfl⟩
      · have HI:=lH (show JG (l.drop k)=true by rw[List.drop_of_length_le (by rw[HL.out];omega),JG]);go_wp2;go_ret;exact⟨jf (HV.out.trans (HS.out.symm.trans HI.out)).symm,rfl⟩
 · have HV:=lH (show Yf l=false by unfold Yf;rw[decide_eq_false (by omega)];rfl);have h9:20<len:=by omega
   clear h20 hr hl hf;go_enter Tryz.func108,Tryz.ntmps108;go_wp2;go_ret;exact⟨jf HV.out.symm,rfl⟩
theorem JY {w W:World} {p q:Prop} (h:p∧q∧Kept w W):Kept w W:=h.2.2
theorem XG {w W W':World} {a b:Addr} {x y:Value} (h:W.cell? a=some x∧W.cell? b=some y∧Kept w W) (k:Kept W W'):W'.cell? a=some x∧W'.cell? b=some y∧Kept w W' :=
 ⟨cell_later k h.1,cell_later k h.2.1,h.2.2.trans k⟩
def jx (have_:V):V→Bool
 | []=>true
 | x::t=>decide (x.2≤jh have_ x.1)&&jx have_ t
theorem YC (a a':Option Addr) (len cap len' cap':Nat) (l l':V) (w:World) (hr:ju w a len l) (hr':ju w a' len' l') :
 Calls Tryz.prog 95 #[.slice a len cap,.slice a' len' cap'] w fun e w'=>e=.returned (.bool (jx l' l))∧Kept w w':=by
 have hl:=hr.1;have hm:=hr.2.1;unfold maxLen at hm;rcases hr.form with h0 | ⟨b,off,rfl⟩
 · subst h0;have HE:=lH (show jx l' l=true by rw[List.eq_nil_of_length_eq_zero hl];rfl);clear hr hl hr';go_enter Tryz.func95,Tryz.ntmps95;go_wp2;refine wp_loop_rounds 1 ?_;rw[rounds_succ];go_wp2;go_ret;exact⟨jf HE.out.symm,Kept.refl _⟩
 · have HR:=lH hr;have HL:=lH hl;have HR':=lH hr';clear hr hl hr';go_enter Tryz.func95,Tryz.ntmps95;go_wp2;go_loopw [9] (fun i wr=>∃k:Nat,k≤len∧i=.int .i64 k∧jx l' (l.drop k)=jx l' l∧Kept w wr) (fun i _=>len-(intOf i).toNat)
   case atStart=>exact⟨0,Nat.zero_le _,rfl,rfl,Kept.refl _⟩
   case round =>
    obtain⟨k,hk,rfl,hrest,hK⟩:=hrel;have HS:=lH hrest;have HK:=lH hK;by_cases hlt:k<len
    · obtain⟨hb,c1,c2⟩:=(HR.out.kept hK).cells hlt;clear hrest hK;have HI:=lH (show k<l.length by rw[HL.out];exact hlt);by_cases e:qn l k≤jh l' (nm l k)
      · have E:=lH (show jx l' (l.drop k)=jx l' (l.drop (k+1)) by rw[drop_cons HI.out,jx,decide_eq_true e];rfl);go_wp2;have f1:((wr.alloc (.cells #[.string (nm l k),.int .i64 (qn l k)] 114)).drew).cell? ⟨wr.heap.size,0,none⟩=some (.string (nm l k)):=by go_simp
        have f2:((wr.alloc (.cells #[.string (nm l k),.int .i64 (qn l k)] 114)).drew).cell? ⟨wr.heap.size,1,none⟩=some (.int .i64 (qn l k)):=by go_simp
        have f3:Kept w ((wr.alloc (.cells #[.string (nm l k),.int .i64 (qn l k)] 114)).drew):=(HK.out.trans (ja _ _)).trans (Kept.drewN _ 1)
        go_region_held3 (fun W=>W.cell? ⟨wr.heap.size,0,none⟩=some (.string (nm l k))∧W.cell? ⟨wr.heap.size,1,none⟩=some (.int .i64 (qn l k))∧Kept w W) (first | exact⟨f1,f2,f3⟩ | assumption | exact XG (by assumption) (by assumption))
         (first | (go_at_call 147;refine(Y9 _ _ _ l' _ _ (HR'.out.kept (JY (by assumption)))).mono ?_;rintro e W2 ⟨rfl,hk2⟩))
        all_goals
         go_wp2;go_roundw
         case rel=>exact⟨k+1,by omega,by go_num,E.out.symm.trans HS.out,JY (by assumption)⟩
         case measure=>simp[intOf];omega
      · have E:=lH (show jx l' (l.drop k)=false by rw[drop_cons HI.out,jx,decide_eq_false e];rfl);have e':jh l' (nm l k)<qn l k:=by omega
        clear e;go_wp2;have f1:((wr.alloc (.cells #[.string (nm l k),.int .i64 (qn l k)] 114)).drew).cell? ⟨wr.heap.size,0,none⟩=some (.string (nm l k)):=by go_simp
        have f2:((wr.alloc (.cells #[.string (nm l k),.int .i64 (qn l k)] 114)).drew).cell? ⟨wr.heap.size,1,none⟩=some (.int .i64 (qn l k)):=by go_simp
        have f3:Kept w ((wr.alloc (.cells #[.string (nm l k),.int .i64 (qn l k)] 114)).drew):=(HK.out.trans (ja _ _)).trans (Kept.drewN _ 1)
        go_region_held3 (fun W=>W.cell? ⟨wr.heap.size,0,none⟩=some (.string (nm l k))∧W.cell? ⟨wr.heap.size,1,none⟩=some (.int .i64 (qn l k))∧Kept w W) (first | exact⟨f1,f2,f3⟩ | assumption | exact XG (by assumption) (by assumption))
         (first | (go_at_call 147;refine(Y9 _ _ _ l' _ _ (HR'.out.kept (JY (by assumption)))).mono ?_;rintro e W2 ⟨rfl,hk2⟩))
        all_goals
         go_wp2;go_ret;exact⟨jf (HS.out.symm.trans E.out).symm,JY (by assumption)⟩
    · have E:=lH (show jx l' (l.drop k)=true by rw[List.drop_of_length_le (by rw[HL.out];omega),jx]);clear hrest hK;go_wp2;go_ret;exact⟨jf (HS.out.symm.trans E.out).symm,HK.out⟩
end Go.Proofs.YtibepooajeakfaaGreat.Vec
