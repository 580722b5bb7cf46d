/- C. -/
import Derived.Test.YtabafpoklpiiiaaGreatShort
import Derived.Test.YtabafpoklpiiiaaGreatProg
import Derived.WalkLawsBesides
import Derived.WalkSpells
import Derived.Deep.AppendLies
import Derived.Shelf.Small.Wraps
import Derived.Shelf.Slices.Turned
import Derived.Lib.Split
import Derived.Lib.Join
import Derived.Lib.ParseIntB
import Derived.RangeFuncNested
import Derived.RangeFuncBound
import Derived.Shelf.RegionOpen
import Derived.OwnWalkIn
import Derived.LoopNIn
import Derived.LoopIn
import Derived.Deep.RegionHeld3
import Derived.Shelf.SlSortCmp.QuietGrown
import Derived.Lib.AppendIntMem
set_option linter.unusedVariables false
set_option maxRecDepth 100000
set_option maxHeartbeats 25600000
namespace Go.Proofs.YtabafpoklpiiiaaGreat
open Go.RowKit
def Kept (w w':World):Prop:=Below w.heap.size w w'
theorem Kept.refl (w:World):Kept w w:=Below.refl _ _
theorem Kept.trans {a b c:World} (h:Kept a b) (k:Kept b c):Kept a c:=Below.trans h (Below.mono k h.size)
theorem Kept.drewN (w:World) (n:Nat):Kept w (w.drewN n):=below_drewN (Below.refl _ _) n
theorem Kept.drew (w:World):Kept w w.drew:=Kept.drewN w 1
theorem ja (w:World) (o:Obj):Kept w (w.alloc o):=(Below.refl _ _).alloc (Nat.le_refl _) _
theorem Za (w:World) (o:Obj) (n:Nat):Kept w ((w.drewN n).alloc o):=(ja w o).trans (Kept.drewN _ n)
theorem ji (w:World) (o o':Obj):Kept w ((w.alloc o).alloc o'):=(ja w o).trans (ja _ o')
theorem cell_later {w w':World} {a:Addr} {u:Value} (k:Kept w w') (h:w.cell? a=some u):w'.cell? a=some u :=
 (Below.cell k (World.block_lt_of_cell? _ _ h)).trans h
theorem zL {a b:Int} (h:a=b):Ending.returned (.int .i64 a)=.returned (.int .i64 b):=by rw[h]
def ltS (s t:ByteArray):Bool:=Op.bytesLess s.toList t.toList
def eqS (s t:ByteArray):Bool:=s.toList==t.toList
def leS (s t:ByteArray):Bool:=ltS s t||eqS s t
theorem jI {s t:ByteArray}:eqS s t=true↔s=t:=by
 unfold eqS;rw[Lib.toList_data,Lib.toList_data,beq_iff_eq];constructor
 · intro h
   cases s;cases t
   simp only[ByteArray.mk.injEq];exact Array.ext' h
 · rintro rfl;rfl
theorem Jz (s:ByteArray):eqS s s=true:=jI.2 rfl
structure Lay (α:Type) where
 m:Nat
 cs:α→List Value
 fine:α→Prop
 len:∀x,(cs x).length=m
 one:∀x u,u ∈ cs x→u.oneCell'=true
 pos:0<m
theorem jda (x:ByteArray) (u:Value) (h:u ∈ [Value.string x]):u.oneCell'=true:=by
 have e:u=Value.string x:=by simpa using h
 rw[e];rfl
theorem jgo (x y:ByteArray) (u:Value) (h:u ∈ [Value.string x,Value.string y]):u.oneCell'=true:=by
 have e:u=Value.string x∨u=Value.string y:=by simpa using h
 rcases e with e | e<;>rw[e]<;>rfl
theorem jfP (o:Int) (x y:ByteArray) (u:Value) (h:u ∈ [Value.int .i64 o,Value.string x,Value.string y]):u.oneCell'=true:=by
 have e:u=Value.int .i64 o∨u=Value.string x∨u=Value.string y:=by simpa using h
 rcases e with e | e | e<;>rw[e]<;>rfl
def jK:Lay ByteArray:={ m:=1,cs:=fun s=>[.string s],fine:=fun s=>s.size≤maxLen,len:=fun _=>rfl,one:=jda,pos:=by decide }
def zc:Lay (ByteArray×ByteArray):={ m:=2,cs:=fun x=>[.string x.1,.string x.2],fine:=fun x=>x.1.size≤maxLen∧x.2.size≤maxLen,len:=fun _=>rfl,one:=fun x=>jgo x.1 x.2,pos:=by decide }
def zT:Lay (Int×ByteArray×ByteArray):={ m:=3,cs:=fun x=>[.int .i64 x.1,.string x.2.1,.string x.2.2],fine:=fun x=>(-9223372036854775808≤x.1∧x.1≤9223372036854775807)∧x.2.1.size≤maxLen∧x.2.2.size≤maxLen,len:=fun _=>rfl,one:=fun x=>jfP x.1 x.2.1 x.2.2,pos:=by decide }
def jk {α:Type} (L:Lay α) (w:World) (a:Option Addr) (len:Nat) (l:List α):Prop :=
 l.length=len∧len≤maxLen∧(∀x ∈ l,L.fine x) ∧
  (len=0∨∃b off,a=some ⟨b,off,none⟩∧b<w.heap.size ∧
    ∀i x j u,l[i]?=some x→(L.cs x)[j]?=some u→w.cell? ⟨b,off+i*L.m+j,none⟩=some u)
theorem jk.kept {α:Type} {L:Lay α} {w w':World} {a:Option Addr} {len:Nat} {l:List α} (h:jk L w a len l) (k:Kept w w'):jk L w' a len l:=by
 obtain⟨h0,h1,h2,h3⟩:=h;refine⟨h0,h1,h2,h3.imp id ?_⟩;rintro ⟨b,off,ha,hb,hc⟩;exact⟨b,off,ha,Nat.lt_of_lt_of_le hb k.size,fun i x j u hi hj=>(Below.cell k (p:=⟨b,off+i*L.m+j,none⟩) hb).trans (hc i x j u hi hj)⟩
theorem jk.nil {α:Type} {L:Lay α} (w:World) (a:Option Addr):jk L w a 0 []:=⟨rfl,by decide,fun i hi=>absurd hi (by simp),.inl rfl⟩
theorem jk.form {α:Type} {L:Lay α} {w:World} {a:Option Addr} {len:Nat} {l:List α} (h:jk L w a len l):len=0∨∃b off,a=some ⟨b,off,none⟩:=by
 obtain⟨_,_,_,h3⟩:=h;exact h3.imp id fun ⟨b,off,e,_⟩=>⟨b,off,e⟩
theorem jk.cells {α:Type} {L:Lay α} {w:World} {b off len:Nat} {l:List α} {k:Nat} (h:jk L w (some ⟨b,off,none⟩) len l) (hk:k<len) :
 ∃x,l[k]?=some x∧l.drop k=x::l.drop (k+1)∧b<w.heap.size∧L.fine x∧∀(j:Nat) u,(L.cs x)[j]?=some u→w.cell? ⟨b,off+k*L.m+j,none⟩=some u:=by
 obtain⟨h0,_,hf,h3⟩:=h;have hkl:k<l.length:=by omega
 rcases h3 with h3 | ⟨b',off',e,hb,hc⟩
 · omega
 · injection e with e;injection e with e1 e2 e3;subst e1;subst e2;have he:l[k]?=some l[k]:=List.getElem?_eq_getElem hkl;exact⟨l[k],he,List.drop_eq_getElem_cons hkl,hb,hf _ (List.getElem_mem hkl),fun j u hu=>hc k _ j u he hu⟩
theorem jk.str {w:World} {b off len:Nat} {l:List ByteArray} {k:Nat} (h:jk jK w (some ⟨b,off,none⟩) len l) (hk:k<len) :
 ∃x:ByteArray,l[k]?=some x∧l.drop k=x::l.drop (k+1)∧b<w.heap.size∧x.size≤maxLen∧w.cell? ⟨b,off+k,none⟩=some (.string x):=by
 obtain⟨x,h1,h2,h3,h4,h5⟩:=h.cells hk;exact⟨x,h1,h2,h3,h4,by have:=h5 0 _ rfl;simpa [jK] using this⟩
theorem jk.pair {w:World} {b off len:Nat} {l:List (ByteArray×ByteArray)} {k:Nat} (h:jk zc w (some ⟨b,off,none⟩) len l) (hk:k<len) :
 ∃x y:ByteArray,l[k]?=some (x,y)∧l.drop k=(x,y)::l.drop (k+1)∧b<w.heap.size∧x.size≤maxLen∧y.size≤maxLen∧w.cell? ⟨b,off+k*2,none⟩=some (.string x)∧w.cell? ⟨b,off+k*2+1,none⟩=some (.string y):=by
 obtain⟨⟨x,y⟩,h1,h2,h3,h4,h5⟩:=h.cells hk;exact⟨x,y,h1,h2,h3,h4.1,h4.2,h5 0 _ rfl,h5 1 _ rfl⟩
theorem jk.term {w:World} {b off len:Nat} {l:List (Int×ByteArray×ByteArray)} {k:Nat} (h:jk zT w (some ⟨b,off,none⟩) len l) (hk:k<len) :
 ∃(o:Int) (x y:ByteArray),l[k]?=some (o,x,y)∧l.drop k=(o,x,y)::l.drop (k+1)∧b<w.heap.size∧(-9223372036854775808≤o∧o≤9223372036854775807)∧x.size≤maxLen∧y.size≤maxLen ∧
  w.cell? ⟨b,off+k*3,none⟩=some (.int .i64 o)∧w.cell? ⟨b,off+k*3+1,none⟩=some (.string x)∧w.cell? ⟨b,off+k*3+2,none⟩=some (.string y):=by
 obtain⟨⟨o,x,y⟩,h1,h2,h3,h4,h5⟩:=h.cells hk;exact⟨o,x,y,h1,h2,h3,h4.1,h4.2.1,h4.2.2,h5 0 _ rfl,h5 1 _ rfl,h5 2 _ rfl⟩
def jd {α:Type} (L:Lay α) (l:List α):List Value:=l.flatMap L.cs
theorem jx {α:Type} (L:Lay α):∀l:List α,(jd L l).length=l.length*L.m
 | []=>by simp[jd]
 | x::t=>by
  have:=jx L t;unfold jd at this ⊢;rw[List.flatMap_cons,List.length_append,this,L.len,List.length_cons,Nat.add_mul,Nat.one_mul,Nat.add_comm]
theorem zI {α:Type} (L:Lay α) (l m:List α):jd L (l++m)=jd L l++jd L m:=by unfold jd;rw[List.flatMap_append]
theorem zl {α:Type} (L:Lay α) (l:List α) (u:Value) (h:u ∈ jd L l):u.oneCell'=true:=by
 obtain⟨x,_,hu⟩:=List.mem_flatMap.1 h;exact L.one x u hu
theorem Zs {α:Type} (L:Lay α):∀(l:List α) (i:Nat) (x:α) (j:Nat) (u:Value),l[i]?=some x→(L.cs x)[j]?=some u→(jd L l)[i*L.m+j]?=some u
 | [],i,x,j,u,h,_=>by simp at h
 | y::t,0,x,j,u,h,hu=>by
  have:y=x:=by simpa using h
  subst this;unfold jd;rw[List.flatMap_cons,Nat.zero_mul,Nat.zero_add,List.getElem?_append_left (List.getElem?_eq_some_iff.1 hu).1];exact hu
 | y::t,i+1,x,j,u,h,hu=>by
  have ih:=Zs L t i x j u (by simpa using h) hu;unfold jd at ih ⊢;rw[List.flatMap_cons,List.getElem?_append_right (by rw[L.len,Nat.add_mul];omega),L.len];have:(i+1)*L.m+j-L.m=i*L.m+j:=by rw[Nat.add_mul];omega
  rw[this];exact ih
def Own {α:Type} (L:Lay α) (e:TypeId) (w:World) (base:Nat) (v:Value) (l:List α):Prop:=w.ownsRow base e L.m v l.length (jd L l)∧∀x ∈ l,L.fine x
theorem Own.nil {α:Type} {L:Lay α} (e:TypeId) (w:World) (base:Nat):Own L e w base (.slice none 0 0) []:=⟨World.ownsRow_nil w base e L.m,fun x h=>by cases h⟩
theorem Own.at_ {α:Type} {L:Lay α} {e:TypeId} {w:World} {base:Nat} {v:Value} {l:List α} (h:Own L e w base v l) :
 ∃a cap,v=.slice a l.length cap∧l.length≤cap∧cap≤maxLen∧jk L w a l.length l:=by
 obtain⟨h,hf⟩:=h;have h':=h;obtain⟨_,h1⟩:=h;rcases h1 with ⟨rfl,h0⟩ | ⟨g,cap,cur,rfl,hbg,hg,hn,hm,hs,ht⟩
 · have:l=[]:=List.eq_nil_of_length_eq_zero h0;subst this;exact⟨none,0,rfl,Nat.le_refl _,by decide,jk.nil w none⟩
 · refine⟨_,cap,rfl,hn,hm,rfl,Nat.le_trans hn hm,hf,.inr ⟨g,0,rfl,?_,fun i x j u hi hj=>?_⟩⟩
   · rcases Nat.lt_or_ge g w.heap.size with hlt | hge
     · exact hlt
     · rw[Array.getElem?_eq_none hge] at hg;cases hg
   · have c1:=h'.cells (g:=g) rfl _ _ (Zs L l i x j u hi hj);rw[←c1];congr 1
     unfold Addr.add;split<;>simp_all
theorem Own.kept {α:Type} {L:Lay α} {e:TypeId} {w w':World} {base:Nat} {v:Value} {l:List α} (h:Own L e w base v l) (k:Kept w w'):Own L e w' base v l:=by
 obtain⟨⟨h0,h1⟩,hf⟩:=h;refine⟨⟨h0,h1.imp id ?_⟩,hf⟩;rintro ⟨g,cap,cur,rfl,hbg,hg,hn,hm,hs,ht⟩;refine⟨g,cap,cur,rfl,hbg,?_,hn,hm,hs,ht⟩;have hlt:g<w.heap.size:=by
  rcases Nat.lt_or_ge g w.heap.size with hlt | hge
  · exact hlt
  · rw[Array.getElem?_eq_none hge] at hg;cases hg
 exact(k.block g hlt).trans hg
theorem Own.base_le {α:Type} {L:Lay α} {e:TypeId} {w:World} {B B':Nat} {v:Value} {l:List α} (h:Own L e w B' v l) (hb:B≤B'):Own L e w B v l:=by
 obtain⟨⟨h0,h1⟩,hf⟩:=h;refine⟨⟨h0,h1.imp id ?_⟩,hf⟩;rintro ⟨g,cap,cur,rfl,hbg,rest⟩;exact⟨g,cap,cur,rfl,Nat.le_trans hb hbg,rest⟩
theorem Own.setCell_below {α:Type} {L:Lay α} {e:TypeId} {w:World} {B:Nat} {v:Value} {l:List α} (h:Own L e w B v l) {a:Addr} (ha:a.block<B) (u:Value):Own L e (w.setCell a u) B v l :=
 ⟨ownsRow_setCell_below h.1 ha u,h.2⟩
theorem Own.put {α:Type} {L:Lay α} {e:TypeId} {w:World} {B D:Nat} {v:Value} {l:List α} (h:Own L e w B v l) (hD:D<B) (o:Obj):Own L e (w.putObj D o) B v l:=by
 obtain⟨⟨h0,h1⟩,hf⟩:=h;refine⟨⟨h0,h1.imp id ?_⟩,hf⟩;rintro ⟨g,cap,cur,rfl,hbg,hg,rest⟩;exact⟨g,cap,cur,rfl,hbg,(World.putObj_heap_other (by omega)).trans hg,rest⟩
def Reads {α:Type} (L:Lay α) (w:World) (v:Value) (l:List α):Prop:=∃a cap,v=.slice a l.length cap∧l.length≤cap∧cap≤maxLen∧jk L w a l.length l
theorem Reads.kept {α:Type} {L:Lay α} {w w':World} {v:Value} {l:List α} (h:Reads L w v l) (k:Kept w w'):Reads L w' v l:=by
 obtain⟨a,cap,e,h1,h2,h3⟩:=h;exact⟨a,cap,e,h1,h2,h3.kept k⟩
theorem Own.reads {α:Type} {L:Lay α} {e:TypeId} {w:World} {base:Nat} {v:Value} {l:List α} (h:Own L e w base v l):Reads L w v l:=by
 obtain⟨a,cap,e,h1,h2,h3⟩:=h.at_;exact⟨a,cap,e,h1,h2,h3⟩
abbrev jV (c:Int):PanicEntry:={ v:=.iface 53 (.int .i64 c),recovered:=false }
def Zc (c:UInt8):Bool:=(decide (97≤(c.toNat:Int))&&decide ((c.toNat:Int)≤122))||(decide (48≤(c.toNat:Int))&&decide ((c.toNat:Int)≤57))
def isName (s:ByteArray):Bool:=decide (1≤s.size)&&decide (s.size≤12)&&s.data.toList.all Zc
theorem jaL {s:ByteArray} (h:s.size=0):s=ByteArray.empty:=by
 have e:s.data.toList=[]:=List.eq_nil_of_length_eq_zero (by rw[Array.length_toList,ByteArray.size_data];exact h);exact Go.WideShapes.bytes_inj (by rw[e];rfl)
theorem jr {a b:Bool} (h:a=b):Ending.returned (.bool a)=.returned (.bool b):=by rw[h]
theorem YP (c:UInt8):Zc c=true↔((97≤(c.toNat:Int)∧(c.toNat:Int)≤122)∨(48≤(c.toNat:Int)∧(c.toNat:Int)≤57)):=by
 unfold Zc;simp only[Bool.or_eq_true,Bool.and_eq_true,decide_eq_true_eq]
theorem jgy {s:ByteArray} (h:s.data.toList.all Zc=true) (i:Nat) (hi:i<s.size):Zc s[i]=true:=by
 rw[List.all_eq_true] at h;exact h _ (by simp[ByteArray.getElem_eq_getElem_data])
theorem jcG {s:ByteArray} (h:¬s.data.toList.all Zc=true):∃(j:Nat) (hj:j<s.size),Zc s[j]=false:=by
 rw[List.all_eq_true] at h;obtain⟨x,h⟩:=Classical.not_forall.1 h;obtain⟨hx,hn⟩:=Classical.not_imp.1 h;obtain⟨j,hj,e⟩:=List.getElem_of_mem hx;refine⟨j,by simpa using hj,?_⟩;have:s[j]'(by simpa using hj)=x:=by rw[←e];simp[ByteArray.getElem_eq_getElem_data]
 rw[this];simpa using hn
theorem jad (c:UInt8) (w:World) (h1:48≤(c.toNat:Int)) (h2:(c.toNat:Int)≤57) :
 Calls Tryz.prog 222 #[.int .u8 (c.toNat:Int)] w fun e w'=>e=.returned (.bool true)∧w=w':=by
 go_enter Tryz.func222,Tryz.ntmps222;go_wp2;go_ret;exact⟨by simp[h1,h2],rfl⟩
theorem jbo (c:UInt8) (w:World) (h:(c.toNat:Int)<48∨57<(c.toNat:Int)) :
 Calls Tryz.prog 222 #[.int .u8 (c.toNat:Int)] w fun e w'=>e=.returned (.bool false)∧w=w':=by
 by_cases h1:(c.toNat:Int)<48
 · go_enter Tryz.func222,Tryz.ntmps222;go_wp2;go_ret;exact⟨rfl,rfl⟩
 · have h2:57<(c.toNat:Int):=by omega
   have h3:48≤(c.toNat:Int):=by omega
   have h4:decide ((c.toNat:Int)≤57)=false:=by simpa using h2
   clear h h1;go_enter Tryz.func222,Tryz.ntmps222;go_wp2;go_ret;exact⟨rfl,rfl⟩
theorem Z0 (s:ByteArray) (w:World) (hs:s.size≤maxLen) :
 Calls Tryz.prog 191 #[.string s] w fun e w'=>e=.returned (.bool (isName s))∧w=w':=by
 unfold maxLen at hs;by_cases h1:1≤s.size
 · have hne:(s.toList==([]:List UInt8))=false:=by
    rw[Lib.toList_data]
    cases hl:s.data.toList with
    | nil=>have:s.size=0:=by rw[←ByteArray.size_data,←Array.length_toList,hl];rfl
           omega
    | cons x t=>rfl
   by_cases h2:s.size≤12
   · by_cases hall:s.data.toList.all Zc=true
     · have HV:=lH (show isName s=true by simp[isName,h1,h2,hall]);have HA:=lH (jgy hall);clear hall;go_enter Tryz.func191,Tryz.ntmps191;go_wp2;go_loop [14] (fun i=>∃k:Nat,k≤s.size∧i=.int .i64 k) (fun i=>s.size-(intOf i).toNat)
       case atStart=>exact⟨0,Nat.zero_le _,rfl⟩
       case round =>
        obtain⟨k,hk,rfl⟩:=hrel;by_cases hlt:k<s.size
        · have hok:=(YP _).1 (HA.out k hlt);by_cases c1:97≤(s[k].toNat:Int)
          · have c2:(s[k].toNat:Int)≤122:=by omega
            clear hok;go_wp2;go_round
            case rel=>exact⟨k+1,by omega,by go_num⟩
            case measure=>simp[intOf];omega
          · have c2:48≤(s[k].toNat:Int):=by omega
            have c3:(s[k].toNat:Int)≤57:=by omega
            clear hok;go_wp2_with (go_at_call 222;refine(jad _ _ c2 c3).mono ?_;rintro e w' ⟨rfl,rfl⟩)
            go_round
            case rel=>exact⟨k+1,by omega,by go_num⟩
            case measure=>simp[intOf];omega
        · go_wp2;go_ret;exact⟨jr HV.out.symm,rfl⟩
     · have HV:=lH (show isName s=false by simp only[isName,Bool.and_eq_false_iff];exact .inr (by simpa using hall));obtain⟨j,hj,hbad⟩:=jcG hall;have HB:=lH hbad;clear hall hbad;go_enter Tryz.func191,Tryz.ntmps191;go_wp2;go_loop [14] (fun i=>∃k:Nat,k≤j∧i=.int .i64 k) (fun i=>s.size-(intOf i).toNat)
       case atStart=>exact⟨0,Nat.zero_le _,rfl⟩
       case round =>
        obtain⟨k,hk,rfl⟩:=hrel;have hlt:k<s.size:=by omega
        by_cases hok:Zc s[k]=true
        · have hkj:k+1≤j:=by
           rcases Nat.lt_or_eq_of_le hk with g | g
           · exact g
           · subst g;rw[HB.out] at hok;cases hok
          have hok:=(YP _).1 hok;by_cases c1:97≤(s[k].toNat:Int)
          · have c2:(s[k].toNat:Int)≤122:=by omega
            clear hok;go_wp2;go_round
            case rel=>exact⟨k+1,by omega,by go_num⟩
            case measure=>simp[intOf];omega
          · have c2:48≤(s[k].toNat:Int):=by omega
            have c3:(s[k].toNat:Int)≤57:=by omega
            clear hok;go_wp2_with (go_at_call 222;refine(jad _ _ c2 c3).mono ?_;rintro e w' ⟨rfl,rfl⟩)
            go_round
            case rel=>exact⟨k+1,by omega,by go_num⟩
            case measure=>simp[intOf];omega
        · have hbad:¬((97≤(s[k].toNat:Int)∧(s[k].toNat:Int)≤122)∨(48≤(s[k].toNat:Int)∧(s[k].toNat:Int)≤57)):=fun g=>hok ((YP _).2 g);have c4:(s[k].toNat:Int)<48∨57<(s[k].toNat:Int):=by omega
          have C4:=lH c4;clear hok;by_cases c1:97≤(s[k].toNat:Int)
          · have c2:decide ((s[k].toNat:Int)≤122)=false:=by
             have:122<(s[k].toNat:Int):=by omega
             simpa using this
            clear hbad c4;go_wp2_with (go_at_call 222;refine(jbo _ _ C4.out).mono ?_;rintro e w' ⟨rfl,rfl⟩)
            go_ret;exact⟨jr HV.out.symm,rfl⟩
          · clear hbad c4;go_wp2_with (go_at_call 222;refine(jbo _ _ C4.out).mono ?_;rintro e w' ⟨rfl,rfl⟩)
            go_ret;exact⟨jr HV.out.symm,rfl⟩
   · have HV:=lH (show isName s=false by simp[isName,h2]);have h3:12<s.size:=by omega
     clear h2;go_enter Tryz.func191,Tryz.ntmps191;go_wp2;go_ret;exact⟨jr HV.out.symm,rfl⟩
 · have HV:=lH (show isName s=false by simp[isName,h1]);have h0:s=ByteArray.empty:=by
    have:s.size=0:=by omega
    exact jaL this
   subst h0;clear h1;go_enter Tryz.func191,Tryz.ntmps191;go_wp2;go_ret;exact⟨jr HV.out.symm,rfl⟩
end Go.Proofs.YtabafpoklpiiiaaGreat
namespace Go.Proofs
open Go.Shelf
def Tryz.lays114_ren:Go.Shelf.Ren:=⟨fun | 114=>245 | n=>n,fun | 28=>211 | 3=>3 | 4=>4 | 9=>9 | 20=>20 | 0=>0 | n=>n,fun | n=>n⟩
theorem Tryz.lays114:Go.Proofs.Lays.n114 Tryz.prog Tryz.lays114_ren:={
 mixed:=by kernel_rfl
 f114:=Tryz.func245.trans (congrArg some (by kernel_rfl))
 t0:=Tryz.underlying0
 a0:=Tryz.isAgg0
 z0:=Tryz.sizeOf0
 v0:=Tryz.zeroValue0
 t3:=Tryz.underlying3
 a3:=Tryz.isAgg3
 z3:=Tryz.sizeOf3
 v3:=Tryz.zeroValue3
 t4:=Tryz.underlying4
 a4:=Tryz.isAgg4
 z4:=Tryz.sizeOf4
 v4:=Tryz.zeroValue4
 t9:=Tryz.underlying9
 a9:=Tryz.isAgg9
 z9:=Tryz.sizeOf9
 v9:=Tryz.zeroValue9
 t20:=Tryz.underlying20
 a20:=Tryz.isAgg20
 z20:=Tryz.sizeOf20
 v20:=Tryz.zeroValue20
 t28:=Tryz.underlying211
 a28:=Tryz.isAgg211
 z28:=Tryz.sizeOf211
 v28:=Tryz.zeroValue211 }
open Go.Lib in
theorem Tryz.slices_Min_int (b off n c:Nat) (zs:List Int) (w:World) (hn:0<n) (hz:n≤zs.length) (hbig:n≤9223372036854775807) (hc:∀j,j<zs.length→w.cell? ⟨b,off+j,none⟩=some (.int .i64 (zs.getD j 0))) :
 Calls Tryz.prog 245 #[.slice (some ⟨b,off,none⟩) n c] w fun e w'=>e=.returned (.int .i64 (Lib.minOf (zs.take n)))∧w'=w:=Any.slices_Min_int Tryz.lays114 b off n c zs w hn hz hbig hc
end Go.Proofs
namespace Go.Proofs.YtabafpoklpiiiaaGreat
open Go.RowKit
theorem YU {α:Type} {l:List α} {k:Nat} (h:¬k<l.length):l.drop k=[]:=List.drop_of_length_le (by omega)
theorem Yg {α:Type} {l:List α} {k:Nat} {x:α} (h:l[k]?=some x):l.take (k+1)=l.take k++[x]:=by rw[List.take_add_one,h];rfl
theorem Own.snoc {α:Type} {L:Lay α} {e:TypeId} {w:World} {base n:Nat} {v:Value} {l:List α} {x:α} (h:w.ownsRow base e L.m v n (jd L l++L.cs x)) (hn:l.length+1=n) (hf:∀z ∈ l,L.fine z) (hx:L.fine x):Own L e w base v (l++[x]):=by
 refine⟨?_,fun z hz=>?_⟩
 · rw[List.length_append,zI];show w.ownsRow base e L.m v (l.length+1) (jd L l++jd L [x]);rw[hn];have e:jd L [x]=L.cs x:=by unfold jd;simp
   rw[e];exact h
 · rcases List.mem_append.1 hz with g | g
   · exact hf z g
   · have:z=x:=by simpa using g
     rw[this];exact hx
def Say (v:Value) (w:World) (e:Ending) (w':World):Prop:=e=.returned v∧Kept w w'
theorem Reads.nil {α:Type} {L:Lay α} (w:World):Reads L w (.slice none 0 0) []:=⟨none,0,rfl,Nat.le_refl _,by decide,jk.nil w none⟩
theorem Reads.fine {α:Type} {L:Lay α} {v:Value} {l:List α} {w:World} (h:Reads L w v l):∀x ∈ l,L.fine x:=by
 obtain⟨a,cap,rfl,h1,h2,h3⟩:=h;exact h3.2.2.1
theorem jk.part {α:Type} {L:Lay α} {w:World} {b off len:Nat} {l:List α} (h:jk L w (some ⟨b,off,none⟩) len l) (i n:Nat) (hi:i+n≤len) :
 jk L w (some ⟨b,off+i*L.m,none⟩) n ((l.drop i).take n):=by
 obtain⟨h0,h1,h2,h3⟩:=h;refine⟨by rw[List.length_take,List.length_drop];omega,by omega,fun x hx=>h2 x (List.mem_of_mem_drop (List.mem_of_mem_take hx)),?_⟩;rcases h3 with h3 | ⟨b',off',e,hb,hc⟩
 · exact .inl (by omega)
 · injection e with e;injection e with e1 e2 e3;subst e1;subst e2;refine .inr ⟨b,_,rfl,hb,fun k x j u hk hj=>?_⟩;have hkn:k<n:=by have:=(List.getElem?_eq_some_iff.1 hk).1;rw[List.length_take] at this;omega
   have hk':l[i+k]?=some x:=by
    rw[List.getElem?_take,if_pos hkn,List.getElem?_drop] at hk;exact hk
   have:=hc (i+k) x j u hk' hj;rw[show off+i*L.m+k*L.m+j=off+(i+k)*L.m+j by rw[Nat.add_mul];omega];exact this
theorem Yb {w:World} {base p n cap:Nat} {e:TypeId} {xs:List Value} (h:w.ownsRow base e 1 (.slice (some ⟨p,0,none⟩) n cap) n xs) {k:Nat} {u:Value} (hk:xs[k]?=some u):w.cell? ⟨p,k,none⟩=some u:=by
 have:=h.cells (g:=p) rfl k u hk;rw[←this];congr 1
 unfold Addr.add;split<;>simp_all
abbrev PL:=List (ByteArray×ByteArray)
abbrev TL:=List (Int×ByteArray×ByteArray)
def jJ (prev:Option ByteArray) (s:ByteArray):Bool:=match prev with | none=>false | some p=>leS s p
def Xv (l:PL) (k:Nat):Option ByteArray:=if k=0 then none else (l[k-1]?).map (·.1)
def JN:Option ByteArray→PL→Int
 | _,[]=>0
 | prev,x::t=>if (isName x.1&&isName x.2)=false then 3 else if jJ prev x.1=true then 13 else JN (some x.1) t
def je9 (l:PL):Int:=if 8<l.length then 4 else JN none l
theorem XI {l:PL} {k:Nat} (h:k=0) (s:ByteArray):jJ (Xv l k) s=false:=by unfold Xv;rw[if_pos h];rfl
theorem XM {l:PL} {k:Nat} {x y:ByteArray} (h:¬k=0) (hx:l[k-1]?=some (x,y)) (s:ByteArray):jJ (Xv l k) s=leS s x:=by unfold Xv;rw[if_neg h,hx];rfl
theorem jae {l:PL} {k:Nat} {x y:ByteArray} (hx:l[k]?=some (x,y)):Xv l (k+1)=some x:=by unfold Xv;rw[if_neg (by omega),Nat.add_sub_cancel,hx];rfl
theorem jby {p:Option ByteArray} {x y:ByteArray} {t:PL} (n:(isName x&&isName y)=false):JN p ((x,y)::t)=3:=by rw[JN,if_pos n]
theorem jay {p:Option ByteArray} {x y:ByteArray} {t:PL} (n1:isName x=true) (n2:isName y=true) (b:jJ p x=true):JN p ((x,y)::t)=13:=by
 rw[JN,if_neg (by dsimp only;rw[n1,n2];decide),if_pos b]
theorem XU {p:Option ByteArray} {x y:ByteArray} {t:PL} (n1:isName x=true) (n2:isName y=true) (b:jJ p x=false):JN p ((x,y)::t)=JN (some x) t:=by
 rw[JN,if_neg (by dsimp only;rw[n1,n2];decide),if_neg (by dsimp only;rw[b];decide)]
abbrev TV (o:Int) (x y:ByteArray):Value:=.agg #[.int .i64 o,.string x,.string y]
def jgJ (t:Int×ByteArray×ByteArray):Int :=
 if t.1=1∨t.1=2 then (if (isName t.2.1&&isName t.2.2)=true then 0 else 3)
 else if t.1=3∨t.1=4 then (if (isName t.2.1&&eqS t.2.2 ByteArray.empty)=true then 0 else 3)
 else 1
def jfB:TL→Int
 | []=>0
 | t::r=>if jgJ t≠0 then jgJ t else jfB r
def jgH (l:TL):Int:=if 8<l.length then 4 else jfB l
def zh:PL→ByteArray→Option ByteArray
 | [],_=>none
 | x::t,n=>if eqS x.1 n=true then some x.2 else zh t n
def ZZ (s:PL) (n:ByteArray):ByteArray:=(zh s n).getD ByteArray.empty
def JZ (s:PL) (n:ByteArray):Bool:=(zh s n).isSome
theorem jdE (x y:ByteArray) (t:PL) (n:ByteArray):zh ((x,y)::t) n=if eqS x n=true then some y else zh t n:=rfl
theorem qR {s:PL} {n:ByteArray} {o:Option ByteArray} (h:zh s n=o):Ending.returned (.tuple #[.string (o.getD ByteArray.empty),.bool o.isSome])=.returned (.tuple #[.string (ZZ s n),.bool (JZ s n)]):=by
 unfold ZZ JZ;rw[h]
theorem jaC {s:PL} {n v:ByteArray} (hf:∀x ∈ s,zc.fine x) (h:zh s n=some v):v.size≤maxLen:=by
 induction s with
 | nil=>cases h
 | cons x t ih =>
  rw[zh] at h;split at h
  · injection h with h;subst h;exact(hf x (by simp)).2
  · exact ih (fun y hy=>hf y (by simp[hy])) h
theorem ZQ (a:Option Addr) (len cap:Nat) (l:PL) (n:ByteArray) (w:World) (hr:jk zc w a len l) :
 Calls Tryz.prog 238 #[.slice a len cap,.string n] w fun e w'=>e=.returned (.tuple #[.string (ZZ l n),.bool (JZ l n)])∧Kept w w':=by
 have hl:=hr.1;have hm:=hr.2.1;unfold maxLen at hm;rcases hr.form with h0 | ⟨b,off,rfl⟩
 · subst h0;have HE:=lH (show zh l n=none by rw[List.eq_nil_of_length_eq_zero hl];rfl);clear hr hl;go_enter Tryz.func238,Tryz.ntmps238;go_wp2;refine wp_loop_rounds 1 ?_;rw[rounds_succ];go_wp2;go_ret2
   exact⟨qR HE.out,Kept.refl _⟩
 · have HR:=lH hr;have HL:=lH hl;clear hr hl;go_enter Tryz.func238,Tryz.ntmps238;go_wp2;go_loopw [10] (fun i wr=>∃k:Nat,k≤len∧i=.int .i64 k∧zh (l.drop k) n=zh l n∧Kept w wr) (fun i _=>len-(intOf i).toNat)
   case atStart=>exact⟨0,Nat.zero_le _,rfl,rfl,Kept.refl _⟩
   case round =>
    obtain⟨k,hk,rfl,hrest,hK⟩:=hrel;by_cases hlt:k<len
    · obtain⟨x,y,hx,hd,hb,hz,hz2,c1,c2⟩:=(HR.out.kept hK).pair hlt;have HK:=lH hK;have HT:=lH (hrest.symm.trans ((congrArg (fun z=>zh z n) hd).trans (jdE _ _ _ _)));clear hK hrest hx hd;by_cases e:eqS x n=true
      · have E:=lH e;have e':(x.toList==n.toList)=true:=e;clear e;go_wp2;go_ret2
        exact⟨qR (HT.out.trans (if_pos E.out)),HK.out.trans (ja _ _)⟩
      · have E:=lH e;have e':(x.toList==n.toList)=false:=by unfold eqS at e;simpa using e
        clear e;go_wp2;go_roundw
        case rel=>exact⟨k+1,by omega,by go_num,(HT.out.trans (if_neg E.out)).symm,HK.out.trans (ja _ _)⟩
        case measure=>simp[intOf];omega
    · have HK:=lH hK;have HS:=lH (hrest.symm.trans (congrArg (fun z=>zh z n) (YU (by rw[HL.out];exact hlt))));clear hK hrest;go_wp2;go_ret2
      exact⟨qR (HS.out.trans rfl),HK.out⟩
def JB (s:PL) (t:Int×ByteArray×ByteArray):Bool :=
 if t.1=1 then JZ s t.2.1&&eqS (ZZ s t.2.1) t.2.2
 else if t.1=2 then !JZ s t.2.1||!eqS (ZZ s t.2.1) t.2.2
 else if t.1=3 then JZ s t.2.1
 else if t.1=4 then !JZ s t.2.1 else false
theorem Zw {s:PL} {o:Int} {x y:ByteArray}:JB s (o,x,y)=if o=1 then JZ s x&&eqS (ZZ s x) y else if o=2 then !JZ s x||!eqS (ZZ s x) y else if o=3 then JZ s x else if o=4 then !JZ s x else false:=rfl
theorem jam (o:Int) (x y:ByteArray) (a:Option Addr) (len cap:Nat) (s:PL) (w:World) (hr:jk zc w a len s) :
 Calls Tryz.prog 215 #[TV o x y,.slice a len cap] w fun e w'=>e=.returned (.bool (JB s (o,x,y)))∧Kept w w':=by
 have HG:=lH (fun (w':World) (k:Kept w w')=>ZQ a len cap s x w' (hr.kept k));obtain⟨v,hv⟩:=eX (ZZ s x)
 obtain⟨h,hh⟩:=eX (JZ s x)
 obtain⟨q,hq⟩:=eX (eqS v y)
 have hq':(v.toList==y.toList)=q:=hq;rw[hv,hh] at HG;clear hr;by_cases h1:o=1
 · subst h1;have HV:=lH (show JB s (1,x,y)=(h&&q) by rw[Zw,if_pos rfl,hv,hh,hq]);clear hv hh hq
   cases h<;>cases q <;>
   (go_enter Tryz.func215,Tryz.ntmps215
    go_wp2_with (go_at_call 238;refine(HG.out _ (ja _ _)).mono ?_;rintro e w1 ⟨rfl,k1⟩;have K1:=lH k1;have c3:=cell_later k1 (show (w.alloc (.cells #[.int .i64 1,.string x,.string y] 144)).cell? ⟨w.heap.size,2,none⟩=some (.string y) by go_simp);have c0:=cell_later k1 (show (w.alloc (.cells #[.int .i64 1,.string x,.string y] 144)).cell? ⟨w.heap.size,0,none⟩=some (.int .i64 1) by go_simp);clear k1)
    go_ret;exact⟨jr HV.out.symm,(ja _ _).trans K1.out⟩)
 · by_cases h2:o=2
   · subst h2;have HV:=lH (show JB s (2,x,y)=(!h||!q) by rw[Zw,if_neg (by decide),if_pos rfl,hv,hh,hq]);clear hv hh hq h1
     cases h<;>cases q <;>
     (go_enter Tryz.func215,Tryz.ntmps215
      go_wp2_with (go_at_call 238;refine(HG.out _ (ja _ _)).mono ?_;rintro e w1 ⟨rfl,k1⟩;have K1:=lH k1;have c3:=cell_later k1 (show (w.alloc (.cells #[.int .i64 2,.string x,.string y] 144)).cell? ⟨w.heap.size,2,none⟩=some (.string y) by go_simp);have c0:=cell_later k1 (show (w.alloc (.cells #[.int .i64 2,.string x,.string y] 144)).cell? ⟨w.heap.size,0,none⟩=some (.int .i64 2) by go_simp);clear k1)
      go_ret;exact⟨jr HV.out.symm,(ja _ _).trans K1.out⟩)
   · by_cases h3:o=3
     · subst h3;have HV:=lH (show JB s (3,x,y)=h by rw[Zw,if_neg (by decide),if_neg (by decide),if_pos rfl,hh]);clear hv hh hq h1 h2;go_enter Tryz.func215,Tryz.ntmps215;go_wp2_with (go_at_call 238;refine(HG.out _ (ja _ _)).mono ?_;rintro e w1 ⟨rfl,k1⟩;have K1:=lH k1;have c0:=cell_later k1 (show (w.alloc (.cells #[.int .i64 3,.string x,.string y] 144)).cell? ⟨w.heap.size,0,none⟩=some (.int .i64 3) by go_simp);clear k1)
       go_ret;exact⟨jr HV.out.symm,(ja _ _).trans K1.out⟩
     · by_cases h4:o=4
       · subst h4;have HV:=lH (show JB s (4,x,y)=!h by rw[Zw,if_neg (by decide),if_neg (by decide),if_neg (by decide),if_pos rfl,hh]);clear hv hh hq h1 h2 h3;go_enter Tryz.func215,Tryz.ntmps215;go_wp2_with (go_at_call 238;refine(HG.out _ (ja _ _)).mono ?_;rintro e w1 ⟨rfl,k1⟩;have K1:=lH k1;have c0:=cell_later k1 (show (w.alloc (.cells #[.int .i64 4,.string x,.string y] 144)).cell? ⟨w.heap.size,0,none⟩=some (.int .i64 4) by go_simp);clear k1)
         go_ret;exact⟨jr HV.out.symm,(ja _ _).trans K1.out⟩
       · have HV:=lH (show JB s (o,x,y)=false by rw[Zw,if_neg h1,if_neg h2,if_neg h3,if_neg h4]);have e1:(o==1)=false:=by simpa using h1
         have e2:(o==2)=false:=by simpa using h2
         have e3:(o==3)=false:=by simpa using h3
         have e4:(o==4)=false:=by simpa using h4
         clear hv hh hq h1 h2 h3 h4;go_enter Tryz.func215,Tryz.ntmps215;go_wp2_with (go_at_call 238;refine(HG.out _ (ja _ _)).mono ?_;rintro e w1 ⟨rfl,k1⟩;have K1:=lH k1;have c0:=cell_later k1 (show (w.alloc (.cells #[.int .i64 o,.string x,.string y] 144)).cell? ⟨w.heap.size,0,none⟩=some (.int .i64 o) by go_simp);clear k1)
         go_ret;exact⟨jr HV.out.symm,(ja _ _).trans K1.out⟩
def JG (l:TL) (s:PL):Bool:=l.all (JB s)
theorem jc3 (t:Int×ByteArray×ByteArray) (r:TL) (s:PL):JG (t::r) s=(JB s t&&JG r s):=rfl
theorem jej (a a':Option Addr) (len cap len' cap':Nat) (l:TL) (s:PL) (w:World) (hr:jk zT w a len l) (hr':jk zc w a' len' s) :
 Calls Tryz.prog 187 #[.slice a len cap,.slice a' len' cap'] w fun e w'=>e=.returned (.bool (JG l s))∧Kept w w':=by
 have hl:=hr.1;have hm:=hr.2.1;unfold maxLen at hm;rcases hr.form with h0 | ⟨b,off,rfl⟩
 · subst h0;have HE:=lH (show JG l s=true by rw[List.eq_nil_of_length_eq_zero hl];rfl);clear hr hl hr';go_enter Tryz.func187,Tryz.ntmps187;go_wp2;refine wp_loop_rounds 1 ?_;rw[rounds_succ];go_wp2;go_ret;exact⟨jr HE.out.symm,Kept.refl _⟩
 · have HR:=lH hr;have HR':=lH hr';have HL:=lH hl;clear hr hl hr';go_enter Tryz.func187,Tryz.ntmps187;go_wp2;go_loopw [9] (fun i wr=>∃k:Nat,k≤len∧i=.int .i64 k∧JG (l.drop k) s=JG l s∧Kept w wr) (fun i _=>len-(intOf i).toNat)
   case atStart=>exact⟨0,Nat.zero_le _,rfl,rfl,Kept.refl _⟩
   case round =>
    obtain⟨k,hk,rfl,hrest,hK⟩:=hrel;by_cases hlt:k<len
    · obtain⟨o,x,y,hx,hd,hb,ho,hz,hz2,c1,c2,c3⟩:=(HR.out.kept hK).term hlt;have HK:=lH hK;have HT:=lH (hrest.symm.trans ((congrArg (fun z=>JG z s) hd).trans (jc3 _ _ _)));clear hK hrest hx hd;by_cases n:JB s (o,x,y)=true
      · have N:=lH n;go_wp2_with (go_at_call 215;refine(jam o x y a' len' cap' s _ ((HR'.out.kept HK.out).kept (ja _ _))).mono ?_;rintro e w1 ⟨rfl,k1⟩;have K1:=lH k1;clear k1)
        go_roundw
        case rel=>exact⟨k+1,by omega,by go_num,(HT.out.trans (by rw[N.out];exact Bool.true_and _)).symm,HK.out.trans ((ja _ _).trans K1.out)⟩
        case measure=>simp[intOf];omega
      · have n:JB s (o,x,y)=false:=by simpa using n
        have N:=lH n;go_wp2_with (go_at_call 215;refine(jam o x y a' len' cap' s _ ((HR'.out.kept HK.out).kept (ja _ _))).mono ?_;rintro e w1 ⟨rfl,k1⟩;have K1:=lH k1;clear k1)
        go_ret;exact⟨jr (HT.out.trans (by rw[N.out];exact Bool.false_and _)).symm,HK.out.trans ((ja _ _).trans K1.out)⟩
    · have HK:=lH hK;have HS:=lH (hrest.symm.trans (congrArg (fun z=>JG z s) (YU (by rw[HL.out];exact hlt))));clear hK hrest;go_wp2;go_ret;exact⟨jr (HS.out.trans rfl).symm,HK.out⟩
abbrev NT:=ByteArray×ByteArray×Bool
abbrev NL:=List NT
abbrev NV (x y:ByteArray) (b:Bool):Value:=.agg #[.string x,.string y,.bool b]
theorem jf1 (x y:ByteArray) (b:Bool) (u:Value) (h:u ∈ [Value.string x,Value.string y,Value.bool b]):u.oneCell'=true:=by
 have e:u=Value.string x∨u=Value.string y∨u=Value.bool b:=by simpa using h
 rcases e with e | e | e<;>rw[e]<;>rfl
def zr:Lay NT:={ m:=3,cs:=fun x=>[.string x.1,.string x.2.1,.bool x.2.2],fine:=fun x=>x.1.size≤maxLen∧x.2.1.size≤maxLen,len:=fun _=>rfl,one:=fun x=>jf1 x.1 x.2.1 x.2.2,pos:=by decide }
theorem jk.tri {w:World} {b off len:Nat} {l:NL} {k:Nat} (h:jk zr w (some ⟨b,off,none⟩) len l) (hk:k<len) :
 ∃(x y:ByteArray) (m:Bool),l[k]?=some (x,y,m)∧l.drop k=(x,y,m)::l.drop (k+1)∧b<w.heap.size∧x.size≤maxLen∧y.size≤maxLen ∧
  w.cell? ⟨b,off+k*3,none⟩=some (.string x)∧w.cell? ⟨b,off+k*3+1,none⟩=some (.string y)∧w.cell? ⟨b,off+k*3+2,none⟩=some (.bool m):=by
 obtain⟨⟨x,y,m⟩,h1,h2,h3,h4,h5⟩:=h.cells hk;exact⟨x,y,m,h1,h2,h3,h4.1,h4.2,h5 0 _ rfl,h5 1 _ rfl,h5 2 _ rfl⟩
def jgV (t z:NT):Bool:=eqS z.1 t.1&&eqS z.2.1 t.2.1
def jfA:NL→NL→Int
 | _,[]=>0
 | pre,x::t=>if (isName x.1&&isName x.2.1)=false then 3 else if pre.any (jgV x)=true then 6 else jfA (pre++[x]) t
def jg5 (l:NL):Int:=if 8<l.length then 4 else jfA [] l
def zq (s:ByteArray):Bool:=eqS s ByteArray.empty
def jgK (x:NT):Bool:=(zq x.1||isName x.1)&&(if x.2.2=true then zq x.2.1 else isName x.2.1)
def jha (l:NL):Int:=if 8<l.length then 4 else if l.all jgK=true then 0 else 3
def Jm (t z:NT):Bool:=(zq z.1||eqS z.1 t.1)&&(z.2.2||eqS z.2.1 t.2.1)
def qv (l:NL) (t:NT):Bool:=l.any (Jm t)
def zk (l:NL):NL→Option NT
 | []=>none
 | t::r=>if (t.2.2&&!qv l t)=true then some t else zk l r
def jfE (l:NL):NL→Nat
 | []=>0
 | t::r=>(if (!t.2.2&&!qv l t)=true then 1 else 0)+jfE l r
theorem Xb {s:ByteArray}:zq s=(s.toList==([]:List UInt8)):=by
 unfold zq eqS;rw[show ByteArray.empty.toList=([]:List UInt8) from by rw[Lib.toList_data];rfl]
open Go.RowKit Go.Shelf
def bytes (l:List UInt8):ByteArray:=⟨l.toArray⟩
theorem YL (p:List UInt8):(bytes p).size=p.length:=by simp[bytes,ByteArray.size]
theorem jA {w w':World} (h:Kept w w') {a:Addr} (ha:w.heap.size≤a.block) (v:Value):Kept w (w'.setCell a v):=Below.setCell h ha v
attribute [local go_sem] Oper.semAt_some
structure St (b2 D:Nat) (W W':World):Prop where
 os:W'.os=W.os
 tape:W'.tape=W.tape
 output:W'.output=W.output
 size:W.heap.size≤W'.heap.size
 block:∀b,b≠b2→b≠D→b≠D+1→W'.heap[b]?=W.heap[b]?
theorem St.setCell {b2 D:Nat} (W:World) (v:Value):St b2 D W (W.setCell ⟨b2,0,none⟩ v) :=
 ⟨rfl,rfl,rfl,by show W.heap.size≤(W.heap.modify _ _).size;rw[Array.size_modify];exact Nat.le_refl _,fun b h _ _=>Below.heap_setCell W ⟨b2,0,none⟩ v b h⟩
theorem St.drewN {b2 D:Nat} (W:World) (n:Nat):St b2 D W (W.drewN n):=⟨rfl,rfl,rfl,Nat.le_refl _,fun _ _ _ _=>rfl⟩
theorem St.put {b2 D:Nat} (W:World) (o:Obj):St b2 D W (W.putObj (D+1) o):=⟨rfl,rfl,rfl,by simp,fun b _ _ h=>World.putObj_heap_other h⟩
def KeptAt (b1 b2 b3 D:Nat) (W W':World):Prop:=∀b,b=b1∨b=b2∨b=b3∨b=D∨b=D+1→W'.heap[b]?=W.heap[b]?
theorem KeptAt.trans {b1 b2 b3 D:Nat} {A B C:World} (h:KeptAt b1 b2 b3 D A B) (k:KeptAt b1 b2 b3 D B C):KeptAt b1 b2 b3 D A C:=fun b hb=>(k b hb).trans (h b hb)
theorem KeptAt.drewN {b1 b2 b3 D:Nat} (W:World) (n:Nat):KeptAt b1 b2 b3 D W (W.drewN n):=fun _ _=>rfl
end Go.Proofs.YtabafpoklpiiiaaGreat
namespace Go.Proofs.YtabafpoklpiiiaaGreat
open Go.RowKit Go.Shelf
attribute [local go_sem] Oper.semAt_some
theorem Own.row {α:Type} {L:Lay α} {e:TypeId} {w:World} {B n:Nat} {v:Value} {l:List α} (h:Own L e w B v l) (hn:l.length=n):w.ownsRow B e L.m v n (jd L l):=hn▸h.1
def qg {α:Type} (L:Lay α) (e:TypeId) (r:Int×List α) (base:Nat) (w:World) (en:Ending) (w':World):Prop :=
 (r.1=0→∃v,en=.returned v∧Own L e w' base v r.2)∧(r.1≠0→en=.panicked [jV r.1])∧Below base w w'
theorem qg.good {α:Type} {L:Lay α} {e:TypeId} {r:Int×List α} {base:Nat} {w w':World} {v:Value} (h:r.1=0) (ho:Own L e w' base v r.2) (hb:Below base w w'):qg L e r base w (.returned v) w':=⟨fun _=>⟨v,rfl,ho⟩,fun g=>absurd h g,hb⟩
theorem qg.bad {α:Type} {L:Lay α} {e:TypeId} {r:Int×List α} {base:Nat} {w w':World} {c:Int} (h:r.1=c) (hc:c≠0) (hb:Below base w w'):qg L e r base w (.panicked [jV c]) w':=⟨fun g=>absurd (h.symm.trans g) hc,fun _=>by rw[h],hb⟩
end Go.Proofs.YtabafpoklpiiiaaGreat
namespace Go.Proofs.YtabafpoklpiiiaaGreat
open Go.RowKit
theorem jai (v:Value) (w:World):Calls Tryz.prog 169 #[v,.int .i64 0] w fun e w'=>e=.returned v∧w=w':=by
 go_enter Tryz.func169,Tryz.ntmps169;go_wp2;go_ret;exact⟨rfl,rfl⟩
theorem X9 (v:Value) (x:Int) (w:World) (h:x≠0):Calls Tryz.prog 169 #[v,.int .i64 x] w fun e w'=>e=.panicked [jV x]∧w=w':=by
 have h3:(x != 0)=true:=by simpa using h
 clear h;go_enter Tryz.func169,Tryz.ntmps169;go_wp2;exact⟨rfl,rfl,rfl⟩
open Go.RowKit Go.Shelf
attribute [local go_sem] Oper.semAt_some
end Go.Proofs.YtabafpoklpiiiaaGreat
namespace Go.Proofs.YtabafpoklpiiiaaGreat
open Go.RowKit Go.Shelf
attribute [local go_sem] Oper.semAt_some
end Go.Proofs.YtabafpoklpiiiaaGreat
namespace Go.Proofs.YtabafpoklpiiiaaGreat
open Go.RowKit
theorem jeP {v:Value} {l:PL} {n x:ByteArray} {b:Bool} {w:World} (h:Reads zc w v l) (hx:ZZ l n=x) (hb:JZ l n=b) :
 Calls Tryz.prog 238 #[v,.string n] w (Say (.tuple #[.string x,.bool b]) w):=by
 obtain⟨a,cap,rfl,_,_,hr⟩:=h;exact(ZQ a _ cap l n w hr).mono fun e w' ⟨he,k⟩=>⟨by rw[he,hx,hb],k⟩
theorem jgI {v v':Value} {l:TL} {s:PL} {b:Bool} {w:World} (h:Reads zT w v l) (h':Reads zc w v' s) (hb:JG l s=b) :
 Calls Tryz.prog 187 #[v,v'] w (Say (.bool b) w):=by
 obtain⟨a,cap,rfl,_,_,hr⟩:=h;obtain⟨a',cap',rfl,_,_,hr'⟩:=h';exact(jej a a' _ cap _ cap' l s w hr hr').mono fun e w' ⟨he,k⟩=>⟨by rw[he,hb],k⟩
open Go.RowKit Go.Sort
def Grw (w w':World):Prop:=∃q os,w'=grow (w.drewN q) os
theorem Grw.refl (w:World):Grw w w:=⟨0,#[],by rw[grow_empty];rfl⟩
theorem Grw.grown {w W:World} (h:Grw w W) (n:Nat) (os:Array Obj):Grw w (grow (W.drewN n) os):=by
 obtain⟨q,os0,rfl⟩:=h;exact⟨q+n,os0++os,by show grow (grow ((w.drewN q).drewN n) os0) os=_;rw[grow_grow,World.drewN_drewN]⟩
theorem Grw.trans {a b c:World} (h:Grw a b) (k:Grw b c):Grw a c:=by
 obtain⟨q,os,rfl⟩:=k;exact h.grown q os
theorem Grw.alloc (w:World) (o:Obj):Grw w (w.alloc o):=⟨0,#[o],alloc_eq_grow _ _⟩
theorem Grw.drewN (w:World) (n:Nat):Grw w (w.drewN n):=⟨n,#[],by rw[grow_empty]⟩
theorem jey (w:World) (n:Nat) (os:Array Obj):Kept w (grow (w.drewN n) os):=Go.Lib.below_grow w.heap.size w (Nat.le_refl _) n os
theorem Grw.kept {w w':World} (h:Grw w w'):Kept w w':=by
 obtain⟨q,os,rfl⟩:=h;exact jey w q os
def Zi (w:World) (c:Nat) (t:NT):Prop:=w.cell? ⟨c,0,none⟩=some (.string t.1)∧w.cell? ⟨c,1,none⟩=some (.string t.2.1)∧w.cell? ⟨c,2,none⟩=some (.bool t.2.2)
theorem Zi.kept {w w':World} {c:Nat} {t:NT} (h:Zi w c t) (k:Kept w w'):Zi w' c t:=⟨cell_later k h.1,cell_later k h.2.1,cell_later k h.2.2⟩
theorem Zi.new (w:World) (x y:ByteArray) (m:Bool) (T:TypeId):Zi (w.alloc (.cells #[.string x,.string y,.bool m] T)) w.heap.size (x,y,m):=by
 have hh:=w.alloc_heap_new (.cells #[.string x,.string y,.bool m] T);exact⟨by rw[Lib.cell_of_heap hh];rfl,by rw[Lib.cell_of_heap hh];rfl,by rw[Lib.cell_of_heap hh];rfl⟩
theorem jfk (t1 t2:ByteArray) (t3:Bool) (x y:ByteArray) (m:Bool) (w:World) :
 Calls Tryz.prog 241 #[NV x y m,NV t1 t2 t3] w fun e w'=>e=.returned (.bool (Jm (t1,t2,t3) (x,y,m)))∧Grw w w':=by
 obtain⟨q0,hq0⟩:=eX ((x.toList==([]:List UInt8)))
 obtain⟨q1,hq1⟩:=eX ((x.toList==t1.toList))
 obtain⟨q2,hq2⟩:=eX ((y.toList==t2.toList))
 have HV:=lH (show Jm (t1,t2,t3) (x,y,m)=((q0||q1)&&(m||q2)) by unfold Jm;rw[Xb,hq0];unfold eqS;rw[hq1,hq2])
 cases q0<;>cases q1<;>cases m<;>cases q2 <;>
 (go_enter Tryz.func241,Tryz.ntmps241
  go_wp2;go_ret;exact⟨jr HV.out.symm,(Grw.alloc _ _).trans (Grw.alloc _ _)⟩)
theorem qb (c:Nat) (t:NT) (x y:ByteArray) (m:Bool) (w:World) (h:Zi w c t) :
 Calls Tryz.prog 240 #[NV x y m,.pointer (some ⟨c,0,none⟩)] w fun e w'=>e=.returned (.bool (Jm t (x,y,m)))∧Grw w w':=by
 obtain⟨t1,t2,t3⟩:=t;obtain⟨h1,h2,h3⟩:=h;dsimp only at h1 h2 h3;have g1:=cell_later (ja w (.cells #[.string x,.string y,.bool m] 147)) h1;have g2:=cell_later (ja w (.cells #[.string x,.string y,.bool m] 147)) h2;have g3:=cell_later (ja w (.cells #[.string x,.string y,.bool m] 147)) h3;go_enter Tryz.func240,Tryz.ntmps240;go_wp2_with (go_at_call 241;refine(jfk t1 t2 t3 x y m _).mono ?_;rintro e w1 ⟨rfl,k1⟩;have K1:=lH k1;clear k1)
 go_ret;exact⟨rfl,(Grw.alloc _ _).trans K1.out⟩
theorem jdk (a:Option Addr) (len cap:Nat) (l:NL) (c:Nat) (t:NT) (w:World) (hr:jk zr w a len l) (ht:Zi w c t) :
 Calls Tryz.prog 253 #[.slice a len cap,.func (.func 240) #[] #[.pointer (some ⟨c,0,none⟩)]] w fun e w'=>∃i:Int,e=.returned (.int .i64 i)∧decide (0≤i)=l.any (Jm t)∧Grw w w':=by
 have hl:=hr.1;have hm:=hr.2.1;unfold maxLen at hm;rcases hr.form with h0 | ⟨b,off,rfl⟩
 · subst h0;have HE:=lH (show l.any (Jm t)=false by rw[List.eq_nil_of_length_eq_zero hl];rfl);clear hr hl ht;go_enter Tryz.func253,Tryz.ntmps253;go_wp2;refine wp_loop_rounds 1 ?_;rw[rounds_succ];go_wp2;go_ret;exact⟨-1,rfl,HE.out.symm,Grw.refl _⟩
 · obtain⟨HR,HL,HT⟩:=lH3 hr hl ht;clear hr hl ht;go_enter Tryz.func253,Tryz.ntmps253;go_wp2;go_loopw [8] (fun i wr=>∃k:Nat,k≤len∧i=.int .i64 k∧(l.drop k).any (Jm t)=l.any (Jm t)∧Grw w wr) (fun i _=>len-(intOf i).toNat)
   case atStart=>exact⟨0,Nat.zero_le _,rfl,rfl,Grw.refl _⟩
   case round =>
    obtain⟨k,hk,rfl,hrest,hG⟩:=hrel;have hK:=hG.kept;have HG:=lH hG;by_cases hlt:k<len
    · obtain⟨x,y,m,hx,hd,hb,hz,hz2,c1,c2,c3⟩:=(HR.out.kept hK).tri hlt;have HK:=lH hK;have HS:=lH (hrest.symm.trans ((congrArg (fun z=>z.any (Jm t)) hd).trans (List.any_cons)));obtain⟨q,hq⟩:=eX (Jm t (x,y,m))
      rw[hq] at HS;have HQ:=lH hq;have HC:=lH (HT.out.kept hK);clear hK hrest hx hd hG hq
      cases q with
      | true =>
       go_wp2_with (go_at_call 240;refine(qb c t x y m _ HC.out).mono ?_;rw[HQ.out];rintro e w1 ⟨rfl,k1⟩;have K1:=lH k1;clear k1)
       go_ret;exact⟨(k:Int),rfl,by rw[HS.out];simp,HG.out.trans K1.out⟩
      | false =>
       go_wp2_with (go_at_call 240;refine(qb c t x y m _ HC.out).mono ?_;rw[HQ.out];rintro e w1 ⟨rfl,k1⟩;have K1:=lH k1;clear k1)
       go_roundw
       case rel=>exact⟨k+1,by omega,by go_num,(HS.out.trans (Bool.false_or _)).symm,HG.out.trans K1.out⟩
       case measure=>simp[intOf];omega
    · have HS:=lH (hrest.symm.trans (congrArg (fun z=>z.any (Jm t)) (YU (by rw[HL.out];exact hlt))));clear hK hrest hG;go_wp2;go_ret;exact⟨-1,rfl,by rw[HS.out];rfl,HG.out⟩
theorem jaD (a:Option Addr) (len cap:Nat) (l:NL) (c:Nat) (t:NT) (w:World) (hr:jk zr w a len l) (ht:Zi w c t) :
 Calls Tryz.prog 239 #[.slice a len cap,.func (.func 240) #[] #[.pointer (some ⟨c,0,none⟩)]] w fun e w'=>e=.returned (.bool (l.any (Jm t)))∧Grw w w':=by
 have HI:=lH (jdk a len cap l c t w hr ht);clear hr ht;go_enter Tryz.func239,Tryz.ntmps239;go_wp2_with fail
 refine HI.out.mono ?_;rintro e w1 ⟨i,rfl,hi,k1⟩;have K1:=lH k1;have HB:=lH hi;clear hi k1;go_wp2;go_ret;exact⟨jr HB.out,K1.out⟩
theorem bears_any (a:Option Addr) (len cap:Nat) (l:NL) (t1 t2:ByteArray) (t3:Bool) (w:World) (hr:jk zr w a len l) :
 Calls Tryz.prog 216 #[.slice a len cap,NV t1 t2 t3] w fun e w'=>e=.returned (.bool (l.any (Jm (t1,t2,t3))))∧Grw w w':=by
 have hmf:=hmfL (P:=Tryz.prog);have HI:=lH (jaD a len cap l w.heap.size (t1,t2,t3) (w.alloc (.cells #[.string t1,.string t2,.bool t3] 219)) (hr.kept (ja _ _)) (Zi.new w t1 t2 t3 _));clear hr;go_enter Tryz.func216,Tryz.ntmps216;go_wp2_with fail
 refine HI.out.mono ?_;rintro e w1 ⟨rfl,k1⟩;have K1:=lH k1;clear k1;go_wp2;go_ret;exact⟨rfl,(Grw.alloc _ _).trans K1.out⟩
open Go.RowKit Go.Shelf
attribute [local go_sem] Oper.semAt_some
end Go.Proofs.YtabafpoklpiiiaaGreat
namespace Go.Proofs.YtabafpoklpiiiaaGreat
open Go.RowKit Go.Shelf
attribute [local go_sem] Oper.semAt_some
end Go.Proofs.YtabafpoklpiiiaaGreat
namespace Go.Proofs.YtabafpoklpiiiaaGreat
open Go.RowKit Go.Sort
theorem jcO {l:NL} {t:NT} {r:NL}:zk l (t::r)=if (t.2.2&&!qv l t)=true then some t else zk l r:=rfl
theorem jeK (w:World) (x y:ByteArray) (m:Bool) (T:TypeId):(w.alloc (.cells #[.string x,.string y,.bool m] T)).frozen? ⟨w.heap.size,0,none⟩=false∧(w.alloc (.cells #[.string x,.string y,.bool m] T)).frozen? ⟨w.heap.size,1,none⟩=false∧(w.alloc (.cells #[.string x,.string y,.bool m] T)).frozen? ⟨w.heap.size,2,none⟩=false:=by
 refine⟨?_,?_,?_⟩<;>go_simp
theorem JR {w w':World} {c i:Nat} (k:Kept w w') (hc:c<w.heap.size) (h:w.frozen? ⟨c,i,none⟩=false):w'.frozen? ⟨c,i,none⟩=false:=(k.frozen (p:=⟨c,i,none⟩) hc).trans h
theorem jaz (w:World) (c:Nat) (u0 u1 u2:Value) {o0 o1 o2:Value} (h0:w.cell? ⟨c,0,none⟩=some o0) (h1:w.cell? ⟨c,1,none⟩=some o1) (h2:w.cell? ⟨c,2,none⟩=some o2) :
 (w.setCell ⟨c,0,none⟩ u0).cell? ⟨c,0,none⟩=some u0∧((w.setCell ⟨c,0,none⟩ u0).setCell ⟨c,1,none⟩ u1).cell? ⟨c,1,none⟩=some u1∧(((w.setCell ⟨c,0,none⟩ u0).setCell ⟨c,1,none⟩ u1).setCell ⟨c,2,none⟩ u2).cell? ⟨c,2,none⟩=some u2:=by
 refine⟨World.cell?_setCell_same' _ _ _ (by rw[h0];rfl),World.cell?_setCell_same' _ _ _ ?_,World.cell?_setCell_same' _ _ _ ?_⟩
 · rw[World.cell?_setCell_other _ _ _ _ (by intro e;injection e with e1 e2;cases e2),h1];rfl
 · rw[World.cell?_setCell_other _ _ _ _ (by intro e;injection e with e1 e2;cases e2),World.cell?_setCell_other _ _ _ _ (by intro e;injection e with e1 e2;cases e2),h2];rfl
def wT (o:Option NT):NT:=o.getD (ByteArray.empty,ByteArray.empty,false)
theorem jdx (a a':Option Addr) (len cap len' cap':Nat) (l t:NL) (w:World) (hr:jk zr w a len l) (hr':jk zr w a' len' t) :
 Calls Tryz.prog 188 #[.slice a len cap,.slice a' len' cap'] w fun e w'=>e=.returned (.tuple #[NV (wT (zk l t)).1 (wT (zk l t)).2.1 (wT (zk l t)).2.2,.bool (zk l t).isSome])∧Kept w w':=by
 have hl:=hr'.1;have hm:=hr'.2.1;unfold maxLen at hm;rcases hr'.form with h0 | ⟨b,off,rfl⟩
 · subst h0;have HE:=lH (show zk l t=none by rw[List.eq_nil_of_length_eq_zero hl];rfl);rw[HE.out];clear hr hr' hl;go_enter Tryz.func188,Tryz.ntmps188;go_wp2;refine wp_loop_rounds 1 ?_;rw[rounds_succ];go_wp2;(try simp only[Exit.inBlock,Exit.then])
   refine bodyPost_ret (v:=.tuple #[NV ⟨#[]⟩ ⟨#[]⟩ false,.bool false]) (by simp[results,Tryz.results188,go_sem]) rfl ?_;exact⟨rfl,ja _ _⟩
 · have HR:=lH hr;have HR':=lH hr';have HL:=lH hl;clear hr hr' hl;go_enter Tryz.func188,Tryz.ntmps188;go_wp2;go_loopw [10] (fun i wr=>∃k:Nat,k≤len'∧i=.int .i64 k∧zk l (t.drop k)=zk l t∧Kept (w.alloc (.cells #[.string ⟨#[]⟩,.string ⟨#[]⟩,.bool false] 219)) wr) (fun i _=>len'-(intOf i).toNat)
   case atStart=>exact⟨0,Nat.zero_le _,rfl,rfl,Kept.refl _⟩
   case round =>
    obtain⟨k,hk,rfl,hrest,hK⟩:=hrel;have hKw:Kept w wr:=(ja w _).trans hK;have tn:=(Zi.new w ⟨#[]⟩ ⟨#[]⟩ false 219).kept hK;have d1:=tn.1;have d2:=tn.2.1;have d3:=tn.2.2;dsimp only at d1 d2 d3;have hbs:w.heap.size<wr.heap.size:=by have:=hK.size;simp at this;omega
    have fr:=jeK w ⟨#[]⟩ ⟨#[]⟩ false 219;have z1:=JR hK (by simp) fr.1;have z2:=JR hK (by simp) fr.2.1;have z3:=JR hK (by simp) fr.2.2;clear tn fr;by_cases hlt:k<len'
    · obtain⟨x,y,m,hx,hd,hb,hz,hz2,c1,c2,c3⟩:=(HR'.out.kept hKw).tri hlt;have HK:=lH hKw;obtain⟨q,hq⟩:=eX (qv l (x,y,m))
      have HS:=lH (hrest.symm.trans ((congrArg (zk l) hd).trans (jcO.trans (by rw[hq]))));have HC:=lH (fun W (h:Kept w W)=>bears_any a len cap l x y m W (HR.out.kept h));rw[show l.any (Jm (x,y,m))=q from hq] at HC;have U8:=lH hK;clear hK hrest hx hd hq hKw
      cases m with
      | false =>
       go_wp2_with fail
       go_roundw
       case rel=>exact⟨k+1,by omega,by go_num,HS.out.symm,U8.out.trans (ja _ _)⟩
       case measure=>simp[intOf];omega
      | true =>
       cases q with
       | true =>
        go_wp2_with (go_at_call 216;refine(HC.out _ (HK.out.trans (ja _ _))).mono ?_;rintro e w1 ⟨rfl,k1⟩;have K1:=lH k1.kept;clear k1)
        go_roundw
        case rel=>exact⟨k+1,by omega,by go_num,HS.out.symm,U8.out.trans ((ja _ _).trans K1.out)⟩
        case measure=>simp[intOf];omega
       | false =>
        have HW:=lH (show zk l t=some (x,y,true) from HS.out);have e1:=cell_later (ja wr (.cells #[.string x,.string y,.bool true] 219)) d1;have e2:=cell_later (ja wr (.cells #[.string x,.string y,.bool true] 219)) d2;have e3:=cell_later (ja wr (.cells #[.string x,.string y,.bool true] 219)) d3;have tn:=Zi.new wr x y true 219;go_wp2_with (go_at_call 216;refine(HC.out _ (HK.out.trans (ja _ _))).mono ?_;rintro e w1 ⟨rfl,k1⟩;have K1:=lH k1.kept;have y1:=JR (Kept.trans (ja wr _) K1.out) hbs z1;have y2:=JR (Kept.trans (ja wr _) K1.out) hbs z2;have y3:=JR (Kept.trans (ja wr _) K1.out) hbs z3;have f1:=cell_later K1.out e1;have f2:=cell_later K1.out e2;have f3:=cell_later K1.out e3;have g1:=cell_later K1.out tn.1;have g2:=cell_later K1.out tn.2.1;have g3:=cell_later K1.out tn.2.2;dsimp only at g1 g2 g3;clear k1)
        (try simp only[Exit.inBlock,Exit.then])
        have s3:=jaz w1 w.heap.size (.string x) (.string y) (.bool true) f1 f2 f3;refine bodyPost_ret (v:=.tuple #[NV x y true,.bool true]) (by simp[results,Tryz.results188,go_sem,s3.1,s3.2.1,s3.2.2]) rfl ?_;exact⟨by rw[HW.out];rfl,jA (jA (jA (HK.out.trans ((ja _ _).trans K1.out)) (Nat.le_refl _) _) (Nat.le_refl _) _) (Nat.le_refl _) _⟩
    · have U8:=lH hKw;have HS:=lH (show zk l t=none from(hrest.symm.trans (congrArg (zk l) (YU (by rw[HL.out];exact hlt)))));clear hK hrest hKw;go_wp2;(try simp only[Exit.inBlock,Exit.then])
      have s3:=jaz wr w.heap.size (.string ⟨#[]⟩) (.string ⟨#[]⟩) (.bool false) d1 d2 d3;refine bodyPost_ret (v:=.tuple #[NV ⟨#[]⟩ ⟨#[]⟩ false,.bool false]) (by simp[results,Tryz.results188,go_sem,s3.1,s3.2.1,s3.2.2]) rfl ?_;exact⟨by rw[HS.out];rfl,jA (jA (jA U8.out (Nat.le_refl _) _) (Nat.le_refl _) _) (Nat.le_refl _) _⟩
open Go.RowKit
theorem jgr {v v':Value} {l t:NL} {x y:ByteArray} {m b:Bool} {w:World} (h:Reads zr w v l) (h':Reads zr w v' t) (hx:wT (zk l t)=(x,y,m)) (hb:(zk l t).isSome=b) :
 Calls Tryz.prog 188 #[v,v'] w (Say (.tuple #[NV x y m,.bool b]) w):=by
 obtain⟨a,cap,rfl,_,_,hr⟩:=h;obtain⟨a',cap',rfl,_,_,hr'⟩:=h';exact(jdx a a' _ cap _ cap' l t w hr hr').mono fun e w' ⟨he,k⟩=>⟨by rw[he,hx,hb],k⟩
end Go.Proofs.YtabafpoklpiiiaaGreat
namespace Go.Proofs.YtabafpoklpiiiaaGreat.Vec
open Go.RowKit
def Xy (v x:Int) (w:World) (e:Ending) (w':World):Prop:=e=.returned (.tuple #[.int .i64 v,.int .i64 x])∧w=w'
def Ans (v x:Int) (w:World) (e:Ending) (w':World):Prop:=e=.returned (.tuple #[.int .i64 v,.int .i64 x])∧Kept w w'
theorem Xy.ans {v x:Int} {w:World} {e:Ending} {w':World} (h:Xy v x w e w'):Ans v x w e w':=by
 obtain⟨rfl,rfl⟩:=h;exact⟨rfl,Kept.refl _⟩
theorem jfe (a b:Int) (w:World) (ha:0≤a) (hb:0≤b) (hb':b≤9223372036854775807) (h:9223372036854775807<a+b):Calls Tryz.prog 208 #[.int .i64 a,.int .i64 b] w (Xy 0 5 w):=by
 go_enter Tryz.func208,Tryz.ntmps208;go_wp2;go_ret2
 exact⟨rfl,rfl⟩
theorem jgA (a b:Int) (w:World) (ha:0≤a) (hb:0≤b) (h:a+b≤9223372036854775807):Calls Tryz.prog 208 #[.int .i64 a,.int .i64 b] w (Xy (a+b) 0 w):=by
 go_enter Tryz.func208,Tryz.ntmps208;go_wp2;go_ret2
 exact⟨rfl,rfl⟩
theorem je4 (a b:Int) (w:World) (ha:0≤a) (hb':b≤9223372036854775807) (h:a<b):Calls Tryz.prog 249 #[.int .i64 a,.int .i64 b] w (Xy 0 5 w):=by
 go_enter Tryz.func249,Tryz.ntmps249;go_wp2;go_ret2
 exact⟨rfl,rfl⟩
theorem jgF (a b:Int) (w:World) (hb:0≤b) (ha':a≤9223372036854775807) (h:b≤a):Calls Tryz.prog 249 #[.int .i64 a,.int .i64 b] w (Xy (a-b) 0 w):=by
 go_enter Tryz.func249,Tryz.ntmps249;go_wp2;go_ret2
 exact⟨rfl,rfl⟩
abbrev V:=List (ByteArray×Int)
def nm (l:V) (i:Nat):ByteArray:=(l.getD i (ByteArray.empty,0)).1
def qn (l:V) (i:Nat):Int:=(l.getD i (ByteArray.empty,0)).2
def Jd (l:V):Prop:=∀i,i<l.length→(nm l i).size≤maxLen∧-9223372036854775808≤qn l i∧qn l i≤9223372036854775807
def js (w:World) (a:Option Addr) (len:Nat) (l:V):Prop :=
 l.length=len∧len≤maxLen∧Jd l ∧
  (len=0∨∃b off,a=some ⟨b,off,none⟩∧b<w.heap.size ∧
    ∀i,i<len→w.cell? ⟨b,off+i*2,none⟩=some (.string (nm l i))∧w.cell? ⟨b,off+i*2+1,none⟩=some (.int .i64 (qn l i)))
theorem js.kept {w w':World} {a:Option Addr} {len:Nat} {l:V} (h:js w a len l) (k:Kept w w'):js w' a len l:=by
 obtain⟨h0,h1,h2,h3⟩:=h;refine⟨h0,h1,h2,h3.imp id ?_⟩;rintro ⟨b,off,ha,hb,hc⟩;exact⟨b,off,ha,Nat.lt_of_lt_of_le hb k.size,fun i hi =>
  ⟨(Below.cell k (p:=⟨b,off+i*2,none⟩) hb).trans (hc i hi).1,(Below.cell k (p:=⟨b,off+i*2+1,none⟩) hb).trans (hc i hi).2⟩⟩
theorem js.nil (w:World):js w none 0 []:=⟨rfl,by decide,fun i hi=>absurd hi (by simp),.inl rfl⟩
theorem drop_cons {l:V} {k:Nat} (h:k<l.length):l.drop k=(nm l k,qn l k)::l.drop (k+1):=by
 rw[List.drop_eq_getElem_cons h];have:l.getD k (ByteArray.empty,0)=l[k]:=by simp[List.getD,h]
 simp only[nm,qn,this]
theorem js.cells {w:World} {b off len:Nat} {l:V} {k:Nat} (h:js w (some ⟨b,off,none⟩) len l) (hk:k<len) :
 b<w.heap.size∧w.cell? ⟨b,off+k*2,none⟩=some (.string (nm l k))∧w.cell? ⟨b,off+k*2+1,none⟩=some (.int .i64 (qn l k)):=by
 obtain⟨_,_,_,h3⟩:=h;rcases h3 with h3 | ⟨b',off',e,hb,hc⟩
 · omega
 · injection e with e;injection e with e1 e2 e3;subst e1;subst e2;exact⟨hb,hc k hk⟩
theorem js.form {w:World} {a:Option Addr} {len:Nat} {l:V} (h:js w a len l):len=0∨∃b off,a=some ⟨b,off,none⟩:=by
 obtain⟨_,_,_,h3⟩:=h;exact h3.imp id fun ⟨b,off,e,_⟩=>⟨b,off,e⟩
def Zy (l:V) (k:Nat):Option ByteArray:=if k=0 then none else some (nm l (k-1))
def jJ (prev:Option ByteArray) (s:ByteArray):Bool:=match prev with | none=>false | some p=>leS s p
def jF:Option ByteArray→V→Int
 | _,[]=>0
 | prev,x::t=>if isName x.1=false then 3 else if x.2≤0 then 1 else if jJ prev x.1=true then 13 else jF (some x.1) t
def jE (l:V):Int:=if 8<l.length then 4 else jF none l
theorem XI {l:V} {k:Nat} (h:k=0) (s:ByteArray):jJ (Zy l k) s=false:=by unfold Zy;rw[if_pos h];rfl
theorem XM {l:V} {k:Nat} (h:¬k=0) (s:ByteArray):jJ (Zy l k) s=leS s (nm l (k-1)):=by unfold Zy;rw[if_neg h];rfl
theorem jae (l:V) (k:Nat):Zy l (k+1)=some (nm l k):=by unfold Zy;rw[if_neg (by omega)];rfl
theorem jby {l:V} {k:Nat} {p:Option ByteArray} (h:k<l.length) (n1:isName (nm l k)=false):jF p (l.drop k)=3:=by
 rw[drop_cons h,jF,if_pos n1]
theorem jfW {l:V} {k:Nat} {p:Option ByteArray} (h:k<l.length) (n1:isName (nm l k)=true) (n2:qn l k≤0):jF p (l.drop k)=1:=by
 rw[drop_cons h,jF,if_neg (by rw[n1];decide),if_pos n2]
theorem jay {l:V} {k:Nat} {p:Option ByteArray} (h:k<l.length) (n1:isName (nm l k)=true) (n2:0<qn l k) (n3:jJ p (nm l k)=true):jF p (l.drop k)=13:=by
 rw[drop_cons h,jF,if_neg (by rw[n1];decide),if_neg (by omega),if_pos n3]
theorem XU {l:V} {k:Nat} {p:Option ByteArray} (h:k<l.length) (n1:isName (nm l k)=true) (n2:0<qn l k) (n3:jJ p (nm l k)=false):jF p (l.drop k)=jF (Zy l (k+1)) (l.drop (k+1)):=by
 rw[drop_cons h,jF,if_neg (by rw[n1];decide),if_neg (by omega),if_neg (by rw[n3];decide),jae]
theorem jgd {l:V} {k:Nat} {p:Option ByteArray} (h:¬k<l.length):jF p (l.drop k)=0:=by
 rw[List.drop_of_length_le (by omega),jF]
theorem Xz (a:Option Addr) (len cap:Nat) (w:World) (h:len≤8) :
 Calls Tryz.prog 236 #[.slice a len cap] w fun e w'=>e=.returned (.tuple #[])∧w=w':=by
 go_enter Tryz.func236,Tryz.ntmps236;go_wp2;go_end0
 exact⟨rfl,rfl⟩
theorem XQ (a:Option Addr) (len cap:Nat) (w:World) (h:8<len) (hm:len≤9223372036854775807) :
 Calls Tryz.prog 236 #[.slice a len cap] w fun e w'=>e=.panicked [jV 4]∧w=w':=by
 go_enter Tryz.func236,Tryz.ntmps236;go_wp2;exact⟨rfl,rfl,rfl⟩
def Chk (l:V) (v:Value) (w:World) (e:Ending) (w':World):Prop :=
 (jE l=0→e=.returned v)∧(jE l≠0→e=.panicked [jV (jE l)])∧Kept w w'
theorem Chk.good {l:V} {v:Value} {w w':World} (h:jE l=0) (k:Kept w w'):Chk l v w (.returned v) w':=⟨fun _=>rfl,fun g=>absurd h g,k⟩
theorem Chk.bad {l:V} {v:Value} {w w':World} {c:Int} (h:jE l=c) (hc:c≠0) (k:Kept w w'):Chk l v w (.panicked [jV c]) w':=⟨fun g=>absurd (h.symm.trans g) hc,fun _=>by rw[h],k⟩
theorem zi (a:Option Addr) (len cap:Nat) (l:V) (w:World) (hr:js w a len l) :
 Calls Tryz.prog 224 #[.slice a len cap] w (Chk l (.slice a len cap) w):=by
 have hl:=hr.1;have hm:=hr.2.1;unfold maxLen at hm;have hm':len≤9223372036854775807:=by omega
 have hf:=hr.2.2.1;by_cases h8:len≤8
 · have HV:=lH (show jE l=jF none l by unfold jE;rw[if_neg (by omega)]);rcases hr.form with h0 | ⟨b,off,rfl⟩
   · subst h0;have HE:=lH (show jE l=0 by rw[HV.out];rw[List.eq_nil_of_length_eq_zero hl];rfl);clear hr hl hf;go_enter Tryz.func224,Tryz.ntmps224;go_wp2_with (go_at_call 236;refine(Xz _ _ _ _ (by omega)).mono ?_;rintro e w' ⟨rfl,rfl⟩)
     refine wp_loop_rounds 1 ?_;rw[rounds_succ];go_wp2;go_ret;exact Chk.good HE.out (Kept.refl _)
   · obtain⟨HF,HR,HL⟩:=lH3 hf hr hl;clear hf hr hl;go_enter Tryz.func224,Tryz.ntmps224;go_wp2_with (go_at_call 236;refine(Xz _ _ _ _ h8).mono ?_;rintro e w' ⟨rfl,rfl⟩)
     go_loopw [9] (fun i wr=>∃k:Nat,k≤len∧i=.int .i64 k∧jF (Zy l k) (l.drop k)=jF none l∧Kept w wr) (fun i _=>len-(intOf i).toNat)
     case atStart=>exact⟨0,Nat.zero_le _,rfl,rfl,Kept.refl _⟩
     case round =>
      obtain⟨k,hk,rfl,hrest,hK⟩:=hrel;by_cases hlt:k<len
      · obtain⟨HK,HS,HT⟩:=lH3 hK (HV.out.trans hrest.symm) hrest;obtain⟨hb,c1,c2⟩:=(HR.out.kept hK).cells hlt;clear hK hrest;have hz:(nm l k).size≤maxLen:=(HF.out k (by rw[HL.out];exact hlt)).1;have HI:=lH (show k<l.length by rw[HL.out];exact hlt);by_cases n1:isName (nm l k)=true
        · have N1:=lH n1;by_cases n2:qn l k≤0
          · have N2:=lH n2;go_wp2_with (go_at_call 191;refine(Z0 _ _ hz).mono ?_;rintro e w' ⟨rfl,rfl⟩)
            exact⟨rfl,Chk.bad (HS.out.trans (jfW HI.out N1.out N2.out)) (by decide) (HK.out.trans (ja _ _))⟩
          · have n2:0<qn l k:=by omega
            have N2:=lH n2;by_cases h0:k=0
            · have hd:decide (0<k)=false:=by subst h0;decide
              have HP:=lH (XI (l:=l) h0 (nm l k));clear h0;go_wp2_with (go_at_call 191;refine(Z0 _ _ hz).mono ?_;rintro e w' ⟨rfl,rfl⟩)
              go_quiet (fail)
              go_wp2;go_roundw
              case rel=>exact⟨k+1,by omega,by go_num,(XU HI.out N1.out N2.out HP.out).symm.trans HT.out,(HK.out.trans (Za _ _ _))⟩
              case measure=>simp[intOf];omega
            · have hd:decide (0<k)=true:=by simp;omega
              have g1:0≤(k:Int)-1:=by omega
              have g2:(k:Int)-1<(len:Int):=by omega
              have g3:((k:Int)-1).toNat=k-1:=by omega
              have HP:=lH (XM (l:=l) h0 (nm l k));obtain⟨_,d1,d2⟩:=(HR.out.kept HK.out).cells (show k-1<len by omega);by_cases n3:leS (nm l k) (nm l (k-1))=true
              · have n3':(Op.bytesLess (nm l k).toList (nm l (k-1)).toList||(nm l k).toList==(nm l (k-1)).toList)=true:=n3;have N3:=lH n3;clear n3;go_wp2_with (go_at_call 191;refine(Z0 _ _ hz).mono ?_;rintro e w' ⟨rfl,rfl⟩)
                go_quiet (fail)
                go_wp2;exact⟨rfl,Chk.bad (HS.out.trans (jay HI.out N1.out N2.out (HP.out.trans N3.out))) (by decide) (HK.out.trans (Za _ _ _))⟩
              · have n3:leS (nm l k) (nm l (k-1))=false:=by simpa using n3
                have n3':(Op.bytesLess (nm l k).toList (nm l (k-1)).toList||(nm l k).toList==(nm l (k-1)).toList)=false:=n3;have N3:=lH n3;clear n3;go_wp2_with (go_at_call 191;refine(Z0 _ _ hz).mono ?_;rintro e w' ⟨rfl,rfl⟩)
                go_quiet (fail)
                go_wp2;go_roundw
                case rel=>exact⟨k+1,by omega,by go_num,(XU HI.out N1.out N2.out (HP.out.trans N3.out)).symm.trans HT.out,(HK.out.trans (Za _ _ _))⟩
                case measure=>simp[intOf];omega
        · have n1:isName (nm l k)=false:=by simpa using n1
          have N1:=lH n1;go_wp2_with (go_at_call 191;refine(Z0 _ _ hz).mono ?_;rintro e w' ⟨rfl,rfl⟩)
          exact⟨rfl,Chk.bad (HS.out.trans (jby HI.out N1.out)) (by decide) (HK.out.trans (ja _ _))⟩
      · obtain⟨HK,HS,HI⟩:=lH3 hK (HV.out.trans hrest.symm) (show ¬k<l.length by rw[HL.out];exact hlt);clear hK hrest;go_wp2;go_ret;exact Chk.good (HS.out.trans (jgd HI.out)) HK.out
 · have HV:=lH (show jE l=4 by unfold jE;rw[if_pos (by omega)]);have h9:8<len:=by omega
   clear h8 hr hl hf hm;go_enter Tryz.func224,Tryz.ntmps224;go_wp2_with (go_at_call 236;refine(XQ _ _ _ _ h9 hm').mono ?_;rintro e w' ⟨rfl,rfl⟩)
   exact⟨rfl,Chk.bad HV.out (by decide) (Kept.refl _)⟩
def jf:V→ByteArray→Int
 | [],_=>0
 | x::t,n=>if eqS x.1 n=true then x.2 else jf t n
theorem je1 {l:V} {k:Nat} {n:ByteArray} (h:k<l.length) (e:eqS (nm l k) n=true):jf (l.drop k) n=qn l k:=by rw[drop_cons h,jf,if_pos e]
theorem jfo {l:V} {k:Nat} {n:ByteArray} (h:k<l.length) (e:eqS (nm l k) n=false):jf (l.drop k) n=jf (l.drop (k+1)) n:=by rw[drop_cons h,jf,if_neg (by rw[e];decide)]
theorem jfR {l:V} {k:Nat} {n:ByteArray} (h:¬k<l.length):jf (l.drop k) n=0:=by rw[List.drop_of_length_le (by omega),jf]
theorem ZQ (a:Option Addr) (len cap:Nat) (l:V) (n:ByteArray) (w:World) (hr:js w a len l) :
 Calls Tryz.prog 168 #[.slice a len cap,.string n] w fun e w'=>e=.returned (.int .i64 (jf l n))∧Kept w w':=by
 have hl:=hr.1;have hm:=hr.2.1;unfold maxLen at hm;rcases hr.form with h0 | ⟨b,off,rfl⟩
 · subst h0;have HE:=lH (show jf l n=0 by rw[List.eq_nil_of_length_eq_zero hl];rfl);clear hr hl;go_enter Tryz.func168,Tryz.ntmps168;go_wp2;refine wp_loop_rounds 1 ?_;rw[rounds_succ];go_wp2;go_ret;exact⟨zL HE.out.symm,Kept.refl _⟩
 · have HR:=lH hr;have HL:=lH hl;clear hr hl;go_enter Tryz.func168,Tryz.ntmps168;go_wp2;go_loopw [9] (fun i wr=>∃k:Nat,k≤len∧i=.int .i64 k∧jf (l.drop k) n=jf l n∧Kept w wr) (fun i _=>len-(intOf i).toNat)
   case atStart=>exact⟨0,Nat.zero_le _,rfl,rfl,Kept.refl _⟩
   case round =>
    obtain⟨k,hk,rfl,hrest,hK⟩:=hrel;have HK:=lH hK;have HS:=lH hrest;by_cases hlt:k<len
    · obtain⟨hb,c1,c2⟩:=(HR.out.kept hK).cells hlt;clear hK hrest;have HI:=lH (show k<l.length by rw[HL.out];exact hlt);by_cases e:eqS (nm l k) n=true
      · have E:=lH e;have e':((nm l k).toList==n.toList)=true:=e;clear e;go_wp2;go_ret;exact⟨zL (HS.out.symm.trans (je1 HI.out E.out)).symm,HK.out.trans (ja _ _)⟩
      · have e:eqS (nm l k) n=false:=by simpa using e
        have E:=lH e;have e':((nm l k).toList==n.toList)=false:=e;clear e;go_wp2;go_roundw
        case rel=>exact⟨k+1,by omega,by go_num,(jfo HI.out E.out).symm.trans HS.out,HK.out.trans (ja _ _)⟩
        case measure=>simp[intOf];omega
    · have HI:=lH (show ¬k<l.length by rw[HL.out];exact hlt);clear hK hrest;go_wp2;go_ret;exact⟨zL (HS.out.symm.trans (jfR HI.out)).symm,HK.out⟩
theorem Ym {w W:World} {p q:Prop} (h:p∧q∧Kept w W):Kept w W:=h.2.2
theorem jag {w W W':World} {a b:Addr} {x y:Value} (h:W.cell? a=some x∧W.cell? b=some y∧Kept w W) (k:Kept W W'):W'.cell? a=some x∧W'.cell? b=some y∧Kept w W' :=
 ⟨cell_later k h.1,cell_later k h.2.1,h.2.2.trans k⟩
def jy (have_:V):V→Bool
 | []=>true
 | x::t=>decide (x.2≤jf have_ x.1)&&jy have_ t
theorem XO (a a':Option Addr) (len cap len' cap':Nat) (l l':V) (w:World) (hr:js w a len l) (hr':js w a' len' l') :
 Calls Tryz.prog 123 #[.slice a len cap,.slice a' len' cap'] w fun e w'=>e=.returned (.bool (jy l' l))∧Kept w w':=by
 have hl:=hr.1;have hm:=hr.2.1;unfold maxLen at hm;rcases hr.form with h0 | ⟨b,off,rfl⟩
 · subst h0;have HE:=lH (show jy l' l=true by rw[List.eq_nil_of_length_eq_zero hl];rfl);clear hr hl hr';go_enter Tryz.func123,Tryz.ntmps123;go_wp2;refine wp_loop_rounds 1 ?_;rw[rounds_succ];go_wp2;go_ret;exact⟨jr HE.out.symm,Kept.refl _⟩
 · have HR:=lH hr;have HL:=lH hl;have HR':=lH hr';clear hr hl hr';go_enter Tryz.func123,Tryz.ntmps123;go_wp2;go_loopw [9] (fun i wr=>∃k:Nat,k≤len∧i=.int .i64 k∧jy l' (l.drop k)=jy l' l∧Kept w wr) (fun i _=>len-(intOf i).toNat)
   case atStart=>exact⟨0,Nat.zero_le _,rfl,rfl,Kept.refl _⟩
   case round =>
    obtain⟨k,hk,rfl,hrest,hK⟩:=hrel;have HS:=lH hrest;have HK:=lH hK;by_cases hlt:k<len
    · obtain⟨hb,c1,c2⟩:=(HR.out.kept hK).cells hlt;clear hrest hK;have HI:=lH (show k<l.length by rw[HL.out];exact hlt);by_cases e:qn l k≤jf l' (nm l k)
      · have E:=lH (show jy l' (l.drop k)=jy l' (l.drop (k+1)) by rw[drop_cons HI.out,jy,decide_eq_true e];rfl);go_wp2;have f1:((wr.alloc (.cells #[.string (nm l k),.int .i64 (qn l k)] 88)).drew).cell? ⟨wr.heap.size,0,none⟩=some (.string (nm l k)):=by go_simp
        have f2:((wr.alloc (.cells #[.string (nm l k),.int .i64 (qn l k)] 88)).drew).cell? ⟨wr.heap.size,1,none⟩=some (.int .i64 (qn l k)):=by go_simp
        have f3:Kept w ((wr.alloc (.cells #[.string (nm l k),.int .i64 (qn l k)] 88)).drew):=(HK.out.trans (ja _ _)).trans (Kept.drewN _ 1)
        go_region_held3 (fun W=>W.cell? ⟨wr.heap.size,0,none⟩=some (.string (nm l k))∧W.cell? ⟨wr.heap.size,1,none⟩=some (.int .i64 (qn l k))∧Kept w W) (first | exact⟨f1,f2,f3⟩ | assumption | exact jag (by assumption) (by assumption))
         (first | (go_at_call 168;refine(ZQ _ _ _ l' _ _ (HR'.out.kept (Ym (by assumption)))).mono ?_;rintro e W2 ⟨rfl,hk2⟩))
        all_goals
         go_wp2;go_roundw
         case rel=>exact⟨k+1,by omega,by go_num,E.out.symm.trans HS.out,Ym (by assumption)⟩
         case measure=>simp[intOf];omega
      · have E:=lH (show jy l' (l.drop k)=false by rw[drop_cons HI.out,jy,decide_eq_false e];rfl);have e':jf l' (nm l k)<qn l k:=by omega
        clear e;go_wp2;have f1:((wr.alloc (.cells #[.string (nm l k),.int .i64 (qn l k)] 88)).drew).cell? ⟨wr.heap.size,0,none⟩=some (.string (nm l k)):=by go_simp
        have f2:((wr.alloc (.cells #[.string (nm l k),.int .i64 (qn l k)] 88)).drew).cell? ⟨wr.heap.size,1,none⟩=some (.int .i64 (qn l k)):=by go_simp
        have f3:Kept w ((wr.alloc (.cells #[.string (nm l k),.int .i64 (qn l k)] 88)).drew):=(HK.out.trans (ja _ _)).trans (Kept.drewN _ 1)
        go_region_held3 (fun W=>W.cell? ⟨wr.heap.size,0,none⟩=some (.string (nm l k))∧W.cell? ⟨wr.heap.size,1,none⟩=some (.int .i64 (qn l k))∧Kept w W) (first | exact⟨f1,f2,f3⟩ | assumption | exact jag (by assumption) (by assumption))
         (first | (go_at_call 168;refine(ZQ _ _ _ l' _ _ (HR'.out.kept (Ym (by assumption)))).mono ?_;rintro e W2 ⟨rfl,hk2⟩))
        all_goals
         go_wp2;go_ret;exact⟨jr (HS.out.symm.trans E.out).symm,Ym (by assumption)⟩
    · have E:=lH (show jy l' (l.drop k)=true by rw[List.drop_of_length_le (by rw[HL.out];omega),jy]);clear hrest hK;go_wp2;go_ret;exact⟨jr (HS.out.symm.trans E.out).symm,HK.out⟩
def cellsOf:V→List Value
 | []=>[]
 | x::t=>.string x.1::.int .i64 x.2::cellsOf t
theorem Zj:∀l:V,(cellsOf l).length=l.length*2
 | []=>rfl
 | x::t=>by simp only[cellsOf,List.length_cons,Zj t];omega
theorem YC:∀l m:V,cellsOf (l++m)=cellsOf l++cellsOf m
 | [],_=>rfl
 | x::t,m=>by simp only[List.cons_append,cellsOf,YC t m]
theorem jgc (x:ByteArray×Int) (t:V):nm (x::t) 0=x.1:=rfl
theorem jct (x:ByteArray×Int) (t:V) (i:Nat):nm (x::t) (i+1)=nm t i:=rfl
theorem jf0 (x:ByteArray×Int) (t:V):qn (x::t) 0=x.2:=rfl
theorem jcm (x:ByteArray×Int) (t:V) (i:Nat):qn (x::t) (i+1)=qn t i:=rfl
theorem YQ:∀(l:V) (i:Nat),i<l.length→(cellsOf l)[i*2]?=some (.string (nm l i))∧(cellsOf l)[i*2+1]?=some (.int .i64 (qn l i))
 | [],i,h=>absurd h (by simp)
 | x::t,0,_=>⟨rfl,rfl⟩
 | x::t,i+1,h=>by
  have:=YQ t i (by simpa using h);rw[jct,jcm,show (i+1)*2=i*2+1+1 from by omega];exact this
theorem Yt:∀(l:V) (u:Value),u ∈ cellsOf l→u.oneCell'=true
 | x::t,u,h=>by
  simp only[cellsOf,List.mem_cons] at h;rcases h with rfl | rfl | h
  · rfl
  · rfl
  · exact Yt t u h
theorem Jd.cons {x:ByteArray×Int} {t:V}:Jd (x::t)↔(x.1.size≤maxLen∧-9223372036854775808≤x.2∧x.2≤9223372036854775807)∧Jd t:=by
 constructor
 · intro h;exact⟨h 0 (by simp),fun i hi=>h (i+1) (by simpa using hi)⟩
 · rintro ⟨h0,h⟩ i hi
   cases i with
   | zero=>exact h0
   | succ i=>exact h i (by simpa using hi)
theorem Jd.nil:Jd []:=fun i hi=>absurd hi (by simp)
theorem Jd.snoc:∀{l:V} {s:ByteArray} {n:Int},Jd l→s.size≤maxLen→-9223372036854775808≤n→n≤9223372036854775807→Jd (l++[(s,n)])
 | [],s,n,_,h1,h2,h3=>Jd.cons.2 ⟨⟨h1,h2,h3⟩,Jd.nil⟩
 | x::t,s,n,h,h1,h2,h3=>by
  rw[Jd.cons] at h;exact Jd.cons.2 ⟨h.1,h.2.snoc h1 h2 h3⟩
def jP (e:TypeId) (w:World) (base:Nat) (v:Value) (l:V):Prop:=w.ownsRow base e 2 v l.length (cellsOf l)∧Jd l
theorem jP.nil (e:TypeId) (w:World) (base:Nat):jP e w base (.slice none 0 0) []:=⟨World.ownsRow_nil w base e 2,Jd.nil⟩
theorem jP.at_ {e:TypeId} {w:World} {base:Nat} {v:Value} {l:V} (h:jP e w base v l) :
 ∃a cap,v=.slice a l.length cap∧l.length≤cap∧cap≤maxLen∧js w a l.length l:=by
 obtain⟨h,hf⟩:=h;have h':=h;obtain⟨_,h1⟩:=h;rcases h1 with ⟨rfl,h0⟩ | ⟨g,cap,cur,rfl,hbg,hg,hn,hm,hs,ht⟩
 · have:l=[]:=List.eq_nil_of_length_eq_zero h0;subst this;exact⟨none,0,rfl,Nat.le_refl _,by decide,js.nil w⟩
 · refine⟨_,cap,rfl,hn,hm,rfl,Nat.le_trans hn hm,hf,.inr ⟨g,0,rfl,?_,fun i hi=>?_⟩⟩
   · rcases Nat.lt_or_ge g w.heap.size with hlt | hge
     · exact hlt
     · rw[Array.getElem?_eq_none hge] at hg;cases hg
   · have c:=h'.cells (g:=g) rfl;have d:=YQ l i hi;have c1:=c _ _ d.1;have c2:=c _ _ d.2;constructor
     · rw[←c1];congr 1;unfold Addr.add;split<;>simp_all
     · rw[←c2];congr 1
theorem jP.kept {e:TypeId} {w w':World} {base:Nat} {v:Value} {l:V} (h:jP e w base v l) (k:Kept w w'):jP e w' base v l:=by
 obtain⟨⟨h0,h1⟩,hf⟩:=h;refine⟨⟨h0,h1.imp id ?_⟩,hf⟩;rintro ⟨g,cap,cur,rfl,hbg,hg,hn,hm,hs,ht⟩;refine⟨g,cap,cur,rfl,hbg,?_,hn,hm,hs,ht⟩;have hlt:g<w.heap.size:=by
  rcases Nat.lt_or_ge g w.heap.size with hlt | hge
  · exact hlt
  · rw[Array.getElem?_eq_none hge] at hg;cases hg
 exact(k.block g hlt).trans hg
theorem jgb:(Tryz.prog.info? 88).map (fun i=>(i.zero,i.size,i.bytes))=some (some (.agg #[.string ByteArray.empty,.int .i64 0]),2,24):=by kernel_rfl
def jgi (base:Nat) (l:V) (w:World) (e:Ending) (w':World):Prop:=∃v,e=.returned v∧jP 88 w' base v l∧Below base w w'
theorem jfc (w:World) (s:ByteArray) (n:Int) (T:TypeId):∀j u,[Value.string s,.int .i64 n][j]?=some u →
 (w.alloc (.cells #[.string s,.int .i64 n] T)).cell? ((⟨w.heap.size,0,none⟩:Addr).add j)=some u :=
 World.news_of_block (cs:=#[.string s,.int .i64 n]) (t:=T) (fr:=(0,0)) (w.alloc_heap_new _)
theorem jax (v:Value) (s:ByteArray) (w:World) :
 Calls Tryz.prog 234 #[v,.string s,.int .i64 0] w fun e w'=>e=.returned v∧w=w':=by
 go_enter Tryz.func234,Tryz.ntmps234;go_wp2;go_ret;exact⟨rfl,rfl⟩
theorem jav (v:Value) (s:ByteArray) (n:Int) (base:Nat) (l:V) (w:World) (h:jP 88 w base v l) (hn:n≠0) (hs:s.size≤maxLen) (h1:-9223372036854775808≤n) (h2:n≤9223372036854775807)
 (hl:l.length≤1000000) (hb:base≤w.heap.size) :
 Calls Tryz.prog 234 #[v,.string s,.int .i64 n] w (jgi base (l++[(s,n)]) w):=by
 have h3:(n==0)=false:=by simpa using hn
 clear hn;obtain⟨i0,hi,hz0,hz1,hz2⟩:=info_parts jgb;obtain⟨hown,hf⟩:=h;have HF:=lH (hf.snoc hs h1 h2);clear hf hs;go_enter Tryz.func234,Tryz.ntmps234;go_wp2_with (at_builtin;refine wpList_append_lies _ rfl (.tmp 10) (.tmp 14) _ rfl base 88 i0 _ 2 24 Tryz.underlying24 hi hz0 hz1 hz2 rfl (by decide) v l.length (cellsOf l) rfl (hown.alloc _) ⟨w.heap.size,0,none⟩ 1 1 [.string s,.int .i64 n] rfl rfl (jfc _ _ _ _) (Yt [(s,n)]) (by decide) (by unfold maxLen;omega) (by omega) (by rw[World.size_alloc];omega) (w.heap.size+1) (World.size_alloc _ _) ?_;intro g cap w1 hown1 hgrow hg hlt;refine Hid.out ?_)
 refine lH ?_;go_wp2;go_ret;refine⟨_,rfl,⟨?_,HF.out⟩,((Below.refl _ w).alloc hb _).grown hgrow (by rw[World.size_alloc];omega) (fun k hk=>?_)⟩
 · rw[List.length_append,YC];exact hown1
 · exact(hown.lt k hk).1
def jj:V→ByteArray→Int×V
 | [],_=>(0,[])
 | x::t,n=>if eqS x.1 n=true then (x.2,t) else (0,x::t)
def jh:V→V→ByteArray
 | [],[]=>ByteArray.empty
 | [],y::_=>y.1
 | x::_,[]=>x.1
 | x::_,y::_=>if ltS y.1 x.1=true then y.1 else x.1
def Reads (w:World) (v:Value) (l:V):Prop:=∃a cap,v=.slice a l.length cap∧l.length≤cap∧cap≤maxLen∧js w a l.length l
theorem Reads.kept {w w':World} {v:Value} {l:V} (h:Reads w v l) (k:Kept w w'):Reads w' v l:=by
 obtain⟨a,cap,e,h1,h2,h3⟩:=h;exact⟨a,cap,e,h1,h2,h3.kept k⟩
theorem jbF (n:Int) (w:World):Calls Tryz.prog 235 #[.int .i64 n,.int .i64 0] w fun e w'=>e=.returned (.int .i64 n)∧w=w':=by
 go_enter Tryz.func235,Tryz.ntmps235;go_wp2;go_ret;exact⟨rfl,rfl⟩
theorem jar (n x:Int) (w:World) (h:x≠0):Calls Tryz.prog 235 #[.int .i64 n,.int .i64 x] w fun e w'=>e=.panicked [jV x]∧w=w':=by
 have h3:(x != 0)=true:=by simpa using h
 clear h;go_enter Tryz.func235,Tryz.ntmps235;go_wp2;exact⟨rfl,rfl,rfl⟩
theorem js.first {w:World} {b off len:Nat} {x:ByteArray×Int} {t:V} (h:js w (some ⟨b,off,none⟩) len (x::t)) :
 b<w.heap.size∧w.cell? ⟨b,off,none⟩=some (.string x.1)∧w.cell? ⟨b,off+1,none⟩=some (.int .i64 x.2):=by
 have hl:0<len:=by have:=h.1;simp only[List.length_cons] at this;omega
 have:=h.cells hl;simpa [jgc,jf0] using this
theorem Xl (a a':Option Addr) (len cap len' cap':Nat) (l l':V) (w:World) (hr:js w a len l) (hr':js w a' len' l') (hne:0<len+len') :
 Calls Tryz.prog 232 #[.slice a len cap,.slice a' len' cap'] w fun e w'=>e=.returned (.string (jh l l'))∧Kept w w':=by
 have hl:=hr.1;have hm:=hr.2.1;have hl':=hr'.1;have hm':=hr'.2.1;unfold maxLen at hm hm'
 cases l with
 | nil =>
  obtain rfl:len=0:=by simpa using hl.symm
  cases l' with
  | nil=>exfalso;simp at hl';omega
  | cons y t =>
   have h0:0<len':=by omega
   rcases hr'.form with h | ⟨b,off,rfl⟩
   · omega
   obtain⟨hb,c1,c2⟩:=hr'.first
   clear hr hr' hl hl';have h1:decide (0<len')=true:=by simpa using h0
   go_enter Tryz.func232,Tryz.ntmps232;go_wp2;go_quiet (fail)
   go_wp2;go_ret;exact⟨rfl,Kept.drewN _ _⟩
 | cons x s =>
  have h0:0<len:=by simp only[List.length_cons] at hl;omega
  have h0':((len:Int)==0)=false:=by
   have:(len:Int)≠0:=by omega
   simpa using this
  rcases hr.form with h | ⟨b,off,rfl⟩
  · omega
  obtain⟨hb,c1,c2⟩:=hr.first
  cases l' with
  | nil =>
   obtain rfl:len'=0:=by simpa using hl'.symm
   clear hr hr' hl hl';go_enter Tryz.func232,Tryz.ntmps232;go_wp2;go_quiet (fail)
   go_wp2;go_ret;exact⟨rfl,Kept.drewN _ _⟩
  | cons y t =>
   have g0:0<len':=by simp only[List.length_cons] at hl';omega
   have g1:decide (0<len')=true:=by simpa using g0
   rcases hr'.form with h | ⟨b',off',rfl⟩
   · omega
   obtain⟨hb',d1,d2⟩:=hr'.first
   clear hr hr' hl hl';by_cases e:ltS y.1 x.1=true
   · have E:=lH (show jh (x::s) (y::t)=y.1 by rw[jh,if_pos e]);have e':Op.bytesLess y.1.toList x.1.toList=true:=e;clear e;go_enter Tryz.func232,Tryz.ntmps232;go_wp2;go_quiet (fail)
     go_wp2;go_ret;exact⟨by rw[E.out];rfl,Kept.drewN _ _⟩
   · have e:ltS y.1 x.1=false:=by simpa using e
     have E:=lH (show jh (x::s) (y::t)=x.1 by rw[jh,if_neg (by rw[e];decide)]);have e':Op.bytesLess y.1.toList x.1.toList=false:=e;clear e;go_enter Tryz.func232,Tryz.ntmps232;go_wp2;go_quiet (fail)
     go_wp2;go_ret;exact⟨by rw[E.out];rfl,Kept.drewN _ _⟩
def jbr (a:Option Addr) (len:Nat) (l:V) (n:ByteArray) (w:World) (e:Ending) (w':World):Prop :=
 ∃A c,e=.returned (.tuple #[.int .i64 (jj l n).1,.slice A (jj l n).2.length c])∧(jj l n).2.length≤c∧c≤maxLen∧(∀W,js W a len l→js W A (jj l n).2.length (jj l n).2)∧Kept w w'
theorem js.tail {w:World} {b off len:Nat} {x:ByteArray×Int} {t:V} (h:js w (some ⟨b,off,none⟩) len (x::t)):js w (some ⟨b,off+2,none⟩) (len-1) t:=by
 have hl:=h.1;simp only[List.length_cons] at hl;refine⟨by omega,by have:=h.2.1;omega,(Jd.cons.1 h.2.2.1).2,?_⟩;by_cases h0:len-1=0
 · exact .inl h0
 · refine .inr ⟨b,off+2,rfl,(h.cells (k:=0) (by omega)).1,fun i hi=>?_⟩;have:=(h.cells (k:=i+1) (by omega)).2;rw[jct,jcm,show off+(i+1)*2=off+2+i*2 from by omega] at this;exact this
theorem js.none_tail {w:World} {a:Option Addr} {len:Nat} {x:ByteArray×Int} {t:V} (h:js w a len (x::t)) (h1:len=1):js w a (len-1) t:=by
 have hl:=h.1;simp only[List.length_cons] at hl;exact⟨by omega,by have:=h.2.1;omega,(Jd.cons.1 h.2.2.1).2,.inl (by omega)⟩
theorem Yh (a:Option Addr) (len cap:Nat) (l:V) (n:ByteArray) (w:World) (hr:js w a len l) (hc:len≤cap) (hm:cap≤maxLen) :
 Calls Tryz.prog 233 #[.slice a len cap,.string n] w (jbr a len l n w):=by
 have hl:=hr.1;have hm':=hm;unfold maxLen at hm
 cases l with
 | nil =>
  obtain rfl:len=0:=by simpa using hl.symm
  have HT:=lH (show jbr a 0 [] n w (.returned (.tuple #[.int .i64 0,.slice a 0 cap])) w from⟨a,cap,rfl,hc,hm',fun _ h=>h,Kept.refl _⟩);clear hr hl hm';go_enter Tryz.func233,Tryz.ntmps233;go_wp2;go_ret2
  exact HT.out
 | cons x s =>
  have h0:0<len:=by simp only[List.length_cons] at hl;omega
  have h0':((len:Int)==0)=false:=by
   have:(len:Int)≠0:=by omega
   simpa using this
  rcases hr.form with h | ⟨b,off,rfl⟩
  · omega
  obtain⟨hb,c1,c2⟩:=hr.first
  by_cases e:eqS x.1 n=true
  · have E:=lH (show jj (x::s) n=(x.2,s) by rw[jj,if_pos e]);have e':(x.1.toList==n.toList)=true:=e;have e'':(x.1.toList != n.toList)=false:=by rw[bne,e'];rfl
    obtain⟨HR,HM,HL⟩:=lH3 hr hm' hl;clear e hr hl hm';by_cases hcap:cap=1
    · subst hcap;obtain rfl:len=1:=by omega
      obtain rfl:s=[]:=by have:=HL.out;simp only[List.length_cons] at this;exact List.eq_nil_of_length_eq_zero (by omega)
      have HT:=lH (show ∀k,jbr (some ⟨b,off,none⟩) 1 [x] n w (.returned (.tuple #[.int .i64 x.2,.slice (some ⟨b,off,none⟩) 0 0])) (w.drewN k) from fun k=>⟨some ⟨b,off,none⟩,0,by rw[E.out];rfl,by rw[E.out];exact Nat.le_refl _,by decide,by rw[E.out];exact fun W h=>h.none_tail rfl,Kept.drewN _ _⟩);go_enter Tryz.func233,Tryz.ntmps233;go_wp2;go_quiet (fail)
      go_wp2;go_ret2
      exact HT.out _
    · have hc2:2≤cap:=by omega
      have hl1:len-1=s.length:=by have:=HL.out;simp only[List.length_cons] at this;omega
      have HT:=lH (show ∀k,jbr (some ⟨b,off,none⟩) len (x::s) n w (.returned (.tuple #[.int .i64 x.2,.slice (some ⟨b,off+2,none⟩) (len-1) (cap-1)])) (w.drewN k) from fun k =>
       ⟨some ⟨b,off+2,none⟩,cap-1,by rw[E.out,hl1],by rw[E.out];show s.length≤cap-1;omega,by unfold maxLen;omega,by rw[E.out];intro W h;have:=h.tail;rw[hl1] at this;exact this,Kept.drewN _ _⟩)
      clear hl1;have hc3:¬cap=1:=hcap;have hc4:¬cap-1=0:=by omega
      clear hcap;go_enter Tryz.func233,Tryz.ntmps233;go_wp2;go_quiet (fail)
      go_wp2;go_ret2
      exact HT.out _
  · have e:eqS x.1 n=false:=by simpa using e
    have E:=lH (show jj (x::s) n=(0,x::s) by rw[jj,if_neg (by rw[e];decide)]);have e':(x.1.toList==n.toList)=false:=e;have e'':(x.1.toList != n.toList)=true:=by rw[bne,e'];rfl
    have HT:=lH (show jbr (some ⟨b,off,none⟩) len (x::s) n w (.returned (.tuple #[.int .i64 0,.slice (some ⟨b,off,none⟩) len cap])) w from⟨some ⟨b,off,none⟩,cap,by rw[E.out];show _=Ending.returned (.tuple #[_,Value.slice _ (x::s).length _]);rw[hl],by rw[E.out];show (x::s).length≤cap;omega,hm',by rw[E.out];intro W h;show js W _ (x::s).length (x::s);rw[hl];exact h,Kept.refl _⟩);clear e hr hl hm';go_enter Tryz.func233,Tryz.ntmps233;go_wp2;go_ret2
    exact HT.out
end Go.Proofs.YtabafpoklpiiiaaGreat.Vec
