/- C. -/
import Derived.Test.YtnfojaidmnccoaaGreatDoorShort
import Derived.Test.YtnfojaidmnccoaaGreatDoorProg
import Derived.WalkLawsBesides
import Derived.WalkSpells
import Derived.BigQuiet
import Derived.Deep.AppendLies
import Derived.RangeFuncRecord
import Derived.Shelf.Strings.OnBuilder
import Derived.Shelf.Small.Bits
import Derived.Shelf.Utf8.RuneCount
import Derived.Shelf.Strconv.Itoa4
import Derived.Shelf.Strconv.ErrVarParseInt
import Derived.Shelf.Strings.Shaped
import Derived.Shelf.Strings.Split
import Derived.Shelf.Bits.Mul64
import Derived.Shelf.Unicode.DecodeSlow
import Derived.StillTailTactics
set_option linter.unusedVariables false
set_option maxRecDepth 100000
set_option maxHeartbeats 25600000
namespace Go.Proofs.YtnfojaidmnccoaaGreatDoor
open Go.RowKit
def Kept (w w':World):Prop:=Below w.heap.size w w'
theorem Kept.refl (w:World):Kept w w:=Below.refl _ _
theorem Kept.trans {a b c:World} (h:Kept a b) (k:Kept b c):Kept a c:=Below.trans h (Below.mono k h.size)
theorem Kept.drewN (w:World) (n:Nat):Kept w (w.drewN n):=below_drewN (Below.refl _ _) n
theorem Kept.drew (w:World):Kept w w.drew:=Kept.drewN w 1
theorem jb (w:World) (o:Obj):Kept w (w.alloc o):=(Below.refl _ _).alloc (Nat.le_refl _) _
theorem zN (w:World) (o:Obj) (n:Nat):Kept w ((w.drewN n).alloc o):=(jb w o).trans (Kept.drewN _ n)
theorem jQ (w:World) (o o':Obj):Kept w ((w.alloc o).alloc o'):=(jb w o).trans (jb _ o')
theorem cell_later {w w':World} {a:Addr} {u:Value} (k:Kept w w') (h:w.cell? a=some u):w'.cell? a=some u :=
 (Below.cell k (World.block_lt_of_cell? _ _ h)).trans h
theorem ji {a b:Int} (h:a=b):Ending.returned (.int .i64 a)=.returned (.int .i64 b):=by rw[h]
theorem Yx {a b:ByteArray} (h:a=b):Ending.returned (.string a)=.returned (.string b):=by rw[h]
def ltS (s t:ByteArray):Bool:=Op.bytesLess s.toList t.toList
def eqS (s t:ByteArray):Bool:=s.toList==t.toList
def leS (s t:ByteArray):Bool:=ltS s t||eqS s t
theorem JS {s t:ByteArray}:eqS s t=true↔s=t:=by
 unfold eqS;rw[Lib.toList_data,Lib.toList_data,beq_iff_eq];constructor
 · intro h
   cases s;cases t
   simp only[ByteArray.mk.injEq];exact Array.ext' h
 · rintro rfl;rfl
structure Lay (α:Type) where
 m:Nat
 cs:α→List Value
 fine:α→Prop
 len:∀x,(cs x).length=m
 one:∀x u,u ∈ cs x→u.oneCell'=true
 pos:0<m
theorem jbI (x:ByteArray) (u:Value) (h:u ∈ [Value.string x]):u.oneCell'=true:=by
 have e:u=Value.string x:=by simpa using h
 rw[e];rfl
theorem jcs (x y:ByteArray) (u:Value) (h:u ∈ [Value.string x,Value.string y]):u.oneCell'=true:=by
 have e:u=Value.string x∨u=Value.string y:=by simpa using h
 rcases e with e | e<;>rw[e]<;>rfl
def StrLay:Lay ByteArray:={ m:=1,cs:=fun s=>[.string s],fine:=fun s=>s.size≤maxLen,len:=fun _=>rfl,one:=jbI,pos:=by decide }
def qd:Lay (ByteArray×ByteArray):={ m:=2,cs:=fun x=>[.string x.1,.string x.2],fine:=fun x=>x.1.size≤maxLen∧x.2.size≤maxLen,len:=fun _=>rfl,one:=fun x=>jcs x.1 x.2,pos:=by decide }
def jT {α:Type} (L:Lay α) (w:World) (a:Option Addr) (len:Nat) (l:List α):Prop :=
 l.length=len∧len≤maxLen∧(∀x ∈ l,L.fine x) ∧
  (len=0∨∃b off,a=some ⟨b,off,none⟩∧b<w.heap.size ∧
    ∀i x j u,l[i]?=some x→(L.cs x)[j]?=some u→w.cell? ⟨b,off+i*L.m+j,none⟩=some u)
theorem jT.kept {α:Type} {L:Lay α} {w w':World} {a:Option Addr} {len:Nat} {l:List α} (h:jT L w a len l) (k:Kept w w'):jT L w' a len l:=by
 obtain⟨h0,h1,h2,h3⟩:=h;refine⟨h0,h1,h2,h3.imp id ?_⟩;rintro ⟨b,off,ha,hb,hc⟩;exact⟨b,off,ha,Nat.lt_of_lt_of_le hb k.size,fun i x j u hi hj=>(Below.cell k (p:=⟨b,off+i*L.m+j,none⟩) hb).trans (hc i x j u hi hj)⟩
theorem jT.nil {α:Type} {L:Lay α} (w:World) (a:Option Addr):jT L w a 0 []:=⟨rfl,by decide,fun i hi=>absurd hi (by simp),.inl rfl⟩
theorem jT.form {α:Type} {L:Lay α} {w:World} {a:Option Addr} {len:Nat} {l:List α} (h:jT L w a len l):len=0∨∃b off,a=some ⟨b,off,none⟩:=by
 obtain⟨_,_,_,h3⟩:=h;exact h3.imp id fun ⟨b,off,e,_⟩=>⟨b,off,e⟩
theorem jT.cells {α:Type} {L:Lay α} {w:World} {b off len:Nat} {l:List α} {k:Nat} (h:jT L w (some ⟨b,off,none⟩) len l) (hk:k<len) :
 ∃x,l[k]?=some x∧l.drop k=x::l.drop (k+1)∧b<w.heap.size∧L.fine x∧∀(j:Nat) u,(L.cs x)[j]?=some u→w.cell? ⟨b,off+k*L.m+j,none⟩=some u:=by
 obtain⟨h0,_,hf,h3⟩:=h;have hkl:k<l.length:=by omega
 rcases h3 with h3 | ⟨b',off',e,hb,hc⟩
 · omega
 · injection e with e;injection e with e1 e2 e3;subst e1;subst e2;have he:l[k]?=some l[k]:=List.getElem?_eq_getElem hkl;exact⟨l[k],he,List.drop_eq_getElem_cons hkl,hb,hf _ (List.getElem_mem hkl),fun j u hu=>hc k _ j u he hu⟩
theorem jT.str {w:World} {b off len:Nat} {l:List ByteArray} {k:Nat} (h:jT StrLay w (some ⟨b,off,none⟩) len l) (hk:k<len) :
 ∃x:ByteArray,l[k]?=some x∧l.drop k=x::l.drop (k+1)∧b<w.heap.size∧x.size≤maxLen∧w.cell? ⟨b,off+k,none⟩=some (.string x):=by
 obtain⟨x,h1,h2,h3,h4,h5⟩:=h.cells hk;exact⟨x,h1,h2,h3,h4,by have:=h5 0 _ rfl;simpa [StrLay] using this⟩
def jg {α:Type} (L:Lay α) (l:List α):List Value:=l.flatMap L.cs
theorem zQ {α:Type} (L:Lay α):∀l:List α,(jg L l).length=l.length*L.m
 | []=>by simp[jg]
 | x::t=>by
  have:=zQ L t;unfold jg at this ⊢;rw[List.flatMap_cons,List.length_append,this,L.len,List.length_cons,Nat.add_mul,Nat.one_mul,Nat.add_comm]
theorem ze {α:Type} (L:Lay α) (l m:List α):jg L (l++m)=jg L l++jg L m:=by unfold jg;rw[List.flatMap_append]
theorem za {α:Type} (L:Lay α) (l:List α) (u:Value) (h:u ∈ jg L l):u.oneCell'=true:=by
 obtain⟨x,_,hu⟩:=List.mem_flatMap.1 h;exact L.one x u hu
theorem Jd {α:Type} (L:Lay α):∀(l:List α) (i:Nat) (x:α) (j:Nat) (u:Value),l[i]?=some x→(L.cs x)[j]?=some u→(jg L l)[i*L.m+j]?=some u
 | [],i,x,j,u,h,_=>by simp at h
 | y::t,0,x,j,u,h,hu=>by
  have:y=x:=by simpa using h
  subst this;unfold jg;rw[List.flatMap_cons,Nat.zero_mul,Nat.zero_add,List.getElem?_append_left (List.getElem?_eq_some_iff.1 hu).1];exact hu
 | y::t,i+1,x,j,u,h,hu=>by
  have ih:=Jd L t i x j u (by simpa using h) hu;unfold jg at ih ⊢;rw[List.flatMap_cons,List.getElem?_append_right (by rw[L.len,Nat.add_mul];omega),L.len];have:(i+1)*L.m+j-L.m=i*L.m+j:=by rw[Nat.add_mul];omega
  rw[this];exact ih
def Own {α:Type} (L:Lay α) (e:TypeId) (w:World) (base:Nat) (v:Value) (l:List α):Prop:=w.ownsRow base e L.m v l.length (jg L l)∧∀x ∈ l,L.fine x
theorem Own.nil {α:Type} {L:Lay α} (e:TypeId) (w:World) (base:Nat):Own L e w base (.slice none 0 0) []:=⟨World.ownsRow_nil w base e L.m,fun x h=>by cases h⟩
theorem Own.at_ {α:Type} {L:Lay α} {e:TypeId} {w:World} {base:Nat} {v:Value} {l:List α} (h:Own L e w base v l) :
 ∃a cap,v=.slice a l.length cap∧l.length≤cap∧cap≤maxLen∧jT L w a l.length l:=by
 obtain⟨h,hf⟩:=h;have h':=h;obtain⟨_,h1⟩:=h;rcases h1 with ⟨rfl,h0⟩ | ⟨g,cap,cur,rfl,hbg,hg,hn,hm,hs,ht⟩
 · have:l=[]:=List.eq_nil_of_length_eq_zero h0;subst this;exact⟨none,0,rfl,Nat.le_refl _,by decide,jT.nil w none⟩
 · refine⟨_,cap,rfl,hn,hm,rfl,Nat.le_trans hn hm,hf,.inr ⟨g,0,rfl,?_,fun i x j u hi hj=>?_⟩⟩
   · rcases Nat.lt_or_ge g w.heap.size with hlt | hge
     · exact hlt
     · rw[Array.getElem?_eq_none hge] at hg;cases hg
   · have c1:=h'.cells (g:=g) rfl _ _ (Jd L l i x j u hi hj);rw[←c1];congr 1
     unfold Addr.add;split<;>simp_all
theorem Own.kept {α:Type} {L:Lay α} {e:TypeId} {w w':World} {base:Nat} {v:Value} {l:List α} (h:Own L e w base v l) (k:Kept w w'):Own L e w' base v l:=by
 obtain⟨⟨h0,h1⟩,hf⟩:=h;refine⟨⟨h0,h1.imp id ?_⟩,hf⟩;rintro ⟨g,cap,cur,rfl,hbg,hg,hn,hm,hs,ht⟩;refine⟨g,cap,cur,rfl,hbg,?_,hn,hm,hs,ht⟩;have hlt:g<w.heap.size:=by
  rcases Nat.lt_or_ge g w.heap.size with hlt | hge
  · exact hlt
  · rw[Array.getElem?_eq_none hge] at hg;cases hg
 exact(k.block g hlt).trans hg
theorem Own.base_le {α:Type} {L:Lay α} {e:TypeId} {w:World} {B B':Nat} {v:Value} {l:List α} (h:Own L e w B' v l) (hb:B≤B'):Own L e w B v l:=by
 obtain⟨⟨h0,h1⟩,hf⟩:=h;refine⟨⟨h0,h1.imp id ?_⟩,hf⟩;rintro ⟨g,cap,cur,rfl,hbg,rest⟩;exact⟨g,cap,cur,rfl,Nat.le_trans hb hbg,rest⟩
theorem Own.setCell_below {α:Type} {L:Lay α} {e:TypeId} {w:World} {B:Nat} {v:Value} {l:List α} (h:Own L e w B v l) {a:Addr} (ha:a.block<B) (u:Value):Own L e (w.setCell a u) B v l :=
 ⟨ownsRow_setCell_below h.1 ha u,h.2⟩
theorem Own.put {α:Type} {L:Lay α} {e:TypeId} {w:World} {B D:Nat} {v:Value} {l:List α} (h:Own L e w B v l) (hD:D<B) (o:Obj):Own L e (w.putObj D o) B v l:=by
 obtain⟨⟨h0,h1⟩,hf⟩:=h;refine⟨⟨h0,h1.imp id ?_⟩,hf⟩;rintro ⟨g,cap,cur,rfl,hbg,hg,rest⟩;exact⟨g,cap,cur,rfl,hbg,(World.putObj_heap_other (by omega)).trans hg,rest⟩
def Reads {α:Type} (L:Lay α) (w:World) (v:Value) (l:List α):Prop:=∃a cap,v=.slice a l.length cap∧l.length≤cap∧cap≤maxLen∧jT L w a l.length l
theorem Reads.kept {α:Type} {L:Lay α} {w w':World} {v:Value} {l:List α} (h:Reads L w v l) (k:Kept w w'):Reads L w' v l:=by
 obtain⟨a,cap,e,h1,h2,h3⟩:=h;exact⟨a,cap,e,h1,h2,h3.kept k⟩
theorem Own.reads {α:Type} {L:Lay α} {e:TypeId} {w:World} {base:Nat} {v:Value} {l:List α} (h:Own L e w base v l):Reads L w v l:=by
 obtain⟨a,cap,e,h1,h2,h3⟩:=h.at_;exact⟨a,cap,e,h1,h2,h3⟩
abbrev jG (c:Int):PanicEntry:={ v:=.iface 38 (.int .i64 c),recovered:=false }
def zs (c:UInt8):Bool:=(decide (97≤(c.toNat:Int))&&decide ((c.toNat:Int)≤122))||(decide (48≤(c.toNat:Int))&&decide ((c.toNat:Int)≤57))
def isName (s:ByteArray):Bool:=decide (1≤s.size)&&decide (s.size≤12)&&s.data.toList.all zs
theorem Jj {s:ByteArray} (h:s.size=0):s=ByteArray.empty:=by
 have e:s.data.toList=[]:=List.eq_nil_of_length_eq_zero (by rw[Array.length_toList,ByteArray.size_data];exact h);exact Go.WideShapes.bytes_inj (by rw[e];rfl)
theorem jv {a b:Bool} (h:a=b):Ending.returned (.bool a)=.returned (.bool b):=by rw[h]
theorem zy (c:UInt8):zs c=true↔((97≤(c.toNat:Int)∧(c.toNat:Int)≤122)∨(48≤(c.toNat:Int)∧(c.toNat:Int)≤57)):=by
 unfold zs;simp only[Bool.or_eq_true,Bool.and_eq_true,decide_eq_true_eq]
theorem jaI {s:ByteArray} (h:s.data.toList.all zs=true) (i:Nat) (hi:i<s.size):zs s[i]=true:=by
 rw[List.all_eq_true] at h;exact h _ (by simp[ByteArray.getElem_eq_getElem_data])
theorem Yp {s:ByteArray} (h:¬s.data.toList.all zs=true):∃(j:Nat) (hj:j<s.size),zs s[j]=false:=by
 rw[List.all_eq_true] at h;obtain⟨x,h⟩:=Classical.not_forall.1 h;obtain⟨hx,hn⟩:=Classical.not_imp.1 h;obtain⟨j,hj,e⟩:=List.getElem_of_mem hx;refine⟨j,by simpa using hj,?_⟩;have:s[j]'(by simpa using hj)=x:=by rw[←e];simp[ByteArray.getElem_eq_getElem_data]
 rw[this];simpa using hn
theorem JF (c:UInt8) (w:World) (h1:48≤(c.toNat:Int)) (h2:(c.toNat:Int)≤57) :
 Calls Tryz.prog 88 #[.int .u8 (c.toNat:Int)] w fun e w'=>e=.returned (.bool true)∧w=w':=by
 go_enter Tryz.func88,Tryz.ntmps88;go_wp2;go_ret;exact⟨by simp[h1,h2],rfl⟩
theorem Z5 (c:UInt8) (w:World) (h:(c.toNat:Int)<48∨57<(c.toNat:Int)) :
 Calls Tryz.prog 88 #[.int .u8 (c.toNat:Int)] w fun e w'=>e=.returned (.bool false)∧w=w':=by
 by_cases h1:(c.toNat:Int)<48
 · go_enter Tryz.func88,Tryz.ntmps88;go_wp2;go_ret;exact⟨rfl,rfl⟩
 · have h2:57<(c.toNat:Int):=by omega
   have h3:48≤(c.toNat:Int):=by omega
   have h4:decide ((c.toNat:Int)≤57)=false:=by simpa using h2
   clear h h1;go_enter Tryz.func88,Tryz.ntmps88;go_wp2;go_ret;exact⟨rfl,rfl⟩
theorem zq (s:ByteArray) (w:World) (hs:s.size≤maxLen) :
 Calls Tryz.prog 32 #[.string s] w fun e w'=>e=.returned (.bool (isName s))∧w=w':=by
 unfold maxLen at hs;by_cases h1:1≤s.size
 · by_cases h2:s.size≤12
   · by_cases hall:s.data.toList.all zs=true
     · have HV:=lH (show isName s=true by simp[isName,h1,h2,hall]);have HA:=lH (jaI hall);clear hall;go_enter Tryz.func32,Tryz.ntmps32;go_wp2;go_loop [3] (fun i=>∃k:Nat,k≤s.size∧i=.int .i64 k) (fun i=>s.size-(intOf i).toNat)
       case atStart=>exact⟨0,Nat.zero_le _,rfl⟩
       case round =>
        obtain⟨k,hk,rfl⟩:=hrel;by_cases hlt:k<s.size
        · have hok:=(zy _).1 (HA.out k hlt);by_cases c1:(s[k].toNat:Int)<97
          · have c2:48≤(s[k].toNat:Int):=by omega
            have c3:(s[k].toNat:Int)≤57:=by omega
            clear hok;go_wp2;go_round
            case rel=>exact⟨k+1,by omega,by go_num⟩
            case measure=>simp[intOf];omega
          · have c2:(s[k].toNat:Int)≤122:=by omega
            clear hok;go_wp2;go_round
            case rel=>exact⟨k+1,by omega,by go_num⟩
            case measure=>simp[intOf];omega
        · go_wp2;go_ret;exact⟨jv HV.out.symm,rfl⟩
     · have HV:=lH (show isName s=false by simp only[isName,Bool.and_eq_false_iff];exact .inr (by simpa using hall));obtain⟨j,hj,hbad⟩:=Yp hall;have HB:=lH hbad;clear hall hbad;go_enter Tryz.func32,Tryz.ntmps32;go_wp2;go_loop [3] (fun i=>∃k:Nat,k≤j∧i=.int .i64 k) (fun i=>s.size-(intOf i).toNat)
       case atStart=>exact⟨0,Nat.zero_le _,rfl⟩
       case round =>
        obtain⟨k,hk,rfl⟩:=hrel;have hlt:k<s.size:=by omega
        by_cases hok:zs s[k]=true
        · have hkj:k+1≤j:=by
           rcases Nat.lt_or_eq_of_le hk with g | g
           · exact g
           · subst g;rw[HB.out] at hok;cases hok
          have hok:=(zy _).1 hok;by_cases c1:(s[k].toNat:Int)<97
          · have c2:48≤(s[k].toNat:Int):=by omega
            have c3:(s[k].toNat:Int)≤57:=by omega
            clear hok;go_wp2;go_round
            case rel=>exact⟨k+1,by omega,by go_num⟩
            case measure=>simp[intOf];omega
          · have c2:(s[k].toNat:Int)≤122:=by omega
            clear hok;go_wp2;go_round
            case rel=>exact⟨k+1,by omega,by go_num⟩
            case measure=>simp[intOf];omega
        · have hbad:¬((97≤(s[k].toNat:Int)∧(s[k].toNat:Int)≤122)∨(48≤(s[k].toNat:Int)∧(s[k].toNat:Int)≤57)):=fun g=>hok ((zy _).2 g);clear hok;by_cases c1:(s[k].toNat:Int)<97
          · by_cases c2:(s[k].toNat:Int)<48
            · clear hbad;go_wp2;go_ret;exact⟨jv HV.out.symm,rfl⟩
            · have c3:57<(s[k].toNat:Int):=by omega
              clear hbad;go_wp2;go_ret;exact⟨jv HV.out.symm,rfl⟩
          · have c2:122<(s[k].toNat:Int):=by omega
            have c3:57<(s[k].toNat:Int):=by omega
            have c4:¬(s[k].toNat:Int)<48:=by omega
            clear hbad;go_wp2;go_ret;exact⟨jv HV.out.symm,rfl⟩
   · have HV:=lH (show isName s=false by simp[isName,h2]);have h3:12<s.size:=by omega
     clear h2;go_enter Tryz.func32,Tryz.ntmps32;go_wp2;go_ret;exact⟨jv HV.out.symm,rfl⟩
 · have HV:=lH (show isName s=false by simp[isName,h1]);have h3:s.size<1:=by omega
   clear h1;go_enter Tryz.func32,Tryz.ntmps32;go_wp2;go_ret;exact⟨jv HV.out.symm,rfl⟩
theorem z6 (s:ByteArray) (w:World) (hs:s.size≤maxLen) :
 Calls Tryz.prog 65 #[.string s] w fun e w'=>e=.returned (.bool (isName s))∧w=w':=by
 unfold maxLen at hs;by_cases h1:1≤s.size
 · have hne:(s.toList==([]:List UInt8))=false:=by
    rw[Lib.toList_data]
    cases hl:s.data.toList with
    | nil=>have:s.size=0:=by rw[←ByteArray.size_data,←Array.length_toList,hl];rfl
           omega
    | cons x t=>rfl
   by_cases h2:s.size≤12
   · by_cases hall:s.data.toList.all zs=true
     · have HV:=lH (show isName s=true by simp[isName,h1,h2,hall]);have HA:=lH (jaI hall);clear hall;go_enter Tryz.func65,Tryz.ntmps65;go_wp2;go_loop [14] (fun i=>∃k:Nat,k≤s.size∧i=.int .i64 k) (fun i=>s.size-(intOf i).toNat)
       case atStart=>exact⟨0,Nat.zero_le _,rfl⟩
       case round =>
        obtain⟨k,hk,rfl⟩:=hrel;by_cases hlt:k<s.size
        · have hok:=(zy _).1 (HA.out k hlt);by_cases c1:97≤(s[k].toNat:Int)
          · have c2:(s[k].toNat:Int)≤122:=by omega
            clear hok;go_wp2;go_round
            case rel=>exact⟨k+1,by omega,by go_num⟩
            case measure=>simp[intOf];omega
          · have c2:48≤(s[k].toNat:Int):=by omega
            have c3:(s[k].toNat:Int)≤57:=by omega
            clear hok;go_wp2_with (go_at_call 88;refine(JF _ _ c2 c3).mono ?_;rintro e w' ⟨rfl,rfl⟩)
            go_round
            case rel=>exact⟨k+1,by omega,by go_num⟩
            case measure=>simp[intOf];omega
        · go_wp2;go_ret;exact⟨jv HV.out.symm,rfl⟩
     · have HV:=lH (show isName s=false by simp only[isName,Bool.and_eq_false_iff];exact .inr (by simpa using hall));obtain⟨j,hj,hbad⟩:=Yp hall;have HB:=lH hbad;clear hall hbad;go_enter Tryz.func65,Tryz.ntmps65;go_wp2;go_loop [14] (fun i=>∃k:Nat,k≤j∧i=.int .i64 k) (fun i=>s.size-(intOf i).toNat)
       case atStart=>exact⟨0,Nat.zero_le _,rfl⟩
       case round =>
        obtain⟨k,hk,rfl⟩:=hrel;have hlt:k<s.size:=by omega
        by_cases hok:zs s[k]=true
        · have hkj:k+1≤j:=by
           rcases Nat.lt_or_eq_of_le hk with g | g
           · exact g
           · subst g;rw[HB.out] at hok;cases hok
          have hok:=(zy _).1 hok;by_cases c1:97≤(s[k].toNat:Int)
          · have c2:(s[k].toNat:Int)≤122:=by omega
            clear hok;go_wp2;go_round
            case rel=>exact⟨k+1,by omega,by go_num⟩
            case measure=>simp[intOf];omega
          · have c2:48≤(s[k].toNat:Int):=by omega
            have c3:(s[k].toNat:Int)≤57:=by omega
            clear hok;go_wp2_with (go_at_call 88;refine(JF _ _ c2 c3).mono ?_;rintro e w' ⟨rfl,rfl⟩)
            go_round
            case rel=>exact⟨k+1,by omega,by go_num⟩
            case measure=>simp[intOf];omega
        · have hbad:¬((97≤(s[k].toNat:Int)∧(s[k].toNat:Int)≤122)∨(48≤(s[k].toNat:Int)∧(s[k].toNat:Int)≤57)):=fun g=>hok ((zy _).2 g);have c4:(s[k].toNat:Int)<48∨57<(s[k].toNat:Int):=by omega
          have C4:=lH c4;clear hok;by_cases c1:97≤(s[k].toNat:Int)
          · have c2:decide ((s[k].toNat:Int)≤122)=false:=by
             have:122<(s[k].toNat:Int):=by omega
             simpa using this
            clear hbad c4;go_wp2_with (go_at_call 88;refine(Z5 _ _ C4.out).mono ?_;rintro e w' ⟨rfl,rfl⟩)
            go_ret;exact⟨jv HV.out.symm,rfl⟩
          · clear hbad c4;go_wp2_with (go_at_call 88;refine(Z5 _ _ C4.out).mono ?_;rintro e w' ⟨rfl,rfl⟩)
            go_ret;exact⟨jv HV.out.symm,rfl⟩
   · have HV:=lH (show isName s=false by simp[isName,h2]);have h3:12<s.size:=by omega
     clear h2;go_enter Tryz.func65,Tryz.ntmps65;go_wp2;go_ret;exact⟨jv HV.out.symm,rfl⟩
 · have HV:=lH (show isName s=false by simp[isName,h1]);have h0:s=ByteArray.empty:=by
    have:s.size=0:=by omega
    exact Jj this
   subst h0;clear h1;go_enter Tryz.func65,Tryz.ntmps65;go_wp2;go_ret;exact⟨jv HV.out.symm,rfl⟩
end Go.Proofs.YtnfojaidmnccoaaGreatDoor
namespace Go.Proofs.YtnfojaidmnccoaaGreatDoor.Vec
open Go.RowKit
def j5 (x y:Int):Int:=x*y / 18446744073709551616
def zO (x y:Int):Int:=x*y % 18446744073709551616
def Ze (h l:Int):Int:=(h*18446744073709551616+l) / 1000
def Zz (h l:Int):Int:=(h*18446744073709551616+l) % 1000
def zr (a p:Int):Int:=a*p / 1000
def ZX (a p:Int):Int:=a*p % 1000
theorem JK {a b:Int} (ha:0≤a) (hb:0≤b):0≤a*b:=Int.mul_nonneg ha hb
theorem Jy {x y:Int} (hx:0≤x) (hy:0≤y):0≤j5 x y:=by
 have:=JK hx hy;unfold j5;omega
theorem z7 (x y:Int):0≤zO x y∧zO x y≤18446744073709551615:=by
 unfold zO;omega
theorem XI {x y:Int} (hx:0≤x) (hy:0≤y) (hx':x≤9223372036854775807) (hy':y≤9223372036854775807):j5 x y≤4611686018427387903:=by
 have h:=Int.mul_le_mul hx' hy' hy (by omega);unfold j5;omega
theorem Xz (x y:Int):Ze (j5 x y) (zO x y)=zr x y:=by
 unfold Ze j5 zO zr;rw[Int.mul_comm (x*y / 18446744073709551616),Int.mul_ediv_add_emod]
theorem jbF (x y:Int):Zz (j5 x y) (zO x y)=ZX x y:=by
 unfold Zz j5 zO ZX;rw[Int.mul_comm (x*y / 18446744073709551616),Int.mul_ediv_add_emod]
theorem ZD (a p:Int):0≤ZX a p∧ZX a p≤999:=by unfold ZX;omega
theorem ZI {a p:Int} (ha:0≤a) (hp:0≤p):0≤zr a p:=by
 have:=JK ha hp;unfold zr;omega
theorem jcN {a p:Int} (h:1000≤j5 a p):9223372036854775807<zr a p:=by
 unfold j5 at h;unfold zr;omega
theorem jbs {j k:IntKind} {a b c d:Int} (h:a=b) (g:c=d):Ending.returned (.tuple #[.int j a,.int k c])=.returned (.tuple #[.int j b,.int k d]):=by rw[h,g]
end Go.Proofs.YtnfojaidmnccoaaGreatDoor.Vec
namespace Go.Proofs
open Go.Shelf
def Tryz.lays169_ren:Go.Shelf.Ren:=⟨fun | 169=>63 | n=>n,fun | 70=>104 | 9=>9 | 0=>0 | 72=>106 | 37=>65 | 127=>141 | 3=>3 | 5=>5 | n=>n,fun | n=>n⟩
theorem Tryz.lays169:Go.Proofs.Lays.n169 Tryz.prog Tryz.lays169_ren:={
 mixed:=by kernel_rfl
 f169:=Tryz.func63.trans (congrArg some (by kernel_rfl))
 t0:=Tryz.underlying0
 a0:=Tryz.isAgg0
 z0:=Tryz.sizeOf0
 v0:=Tryz.zeroValue0
 t3:=Tryz.underlying3
 a3:=Tryz.isAgg3
 z3:=Tryz.sizeOf3
 v3:=Tryz.zeroValue3
 t9:=Tryz.underlying9
 a9:=Tryz.isAgg9
 z9:=Tryz.sizeOf9
 v9:=Tryz.zeroValue9
 t37:=Tryz.underlying65
 a37:=Tryz.isAgg65
 z37:=Tryz.sizeOf65
 v37:=Tryz.zeroValue65
 t70:=Tryz.underlying104
 a70:=Tryz.isAgg104
 z70:=Tryz.sizeOf104
 v70:=Tryz.zeroValue104
 t72:=Tryz.underlying106
 a72:=Tryz.isAgg106
 z72:=Tryz.sizeOf106
 v72:=Tryz.zeroValue106
 t127:=Tryz.underlying141
 a127:=Tryz.isAgg141
 z127:=Tryz.sizeOf141
 v127:=Tryz.zeroValue141 }
theorem Tryz.Builder_Extra_169:Builder.Extra Tryz.prog Tryz.lays169_ren:={
 sizeBuilder:=by kernel_rfl
 liesBuilder:=by kernel_rfl
 t5:=Tryz.underlying5
 a5:=Tryz.isAgg5
 z5:=Tryz.sizeOf5
 v5:=Tryz.zeroValue5
 infoByte:=by kernel_rfl
 cellsByte:=by kernel_rfl
 sizeByte:=by kernel_rfl
 neB5:=by decide }
open Go.RowKit in
theorem Tryz.Builder_String_any (B b:Nat) (l:List UInt8) (w:World) (h:Lib.IsBuilder 106 5 B b (Lib.byteCells l) w) (hBw:B≤w.heap.size) :
 Calls Tryz.prog 63 #[.pointer (some ⟨b,0,none⟩)] w fun e w'=>e=.returned (.string ⟨l.toArray⟩)∧Below B w w':=Any.Builder_String_any Tryz.lays169 Tryz.Builder_Extra_169 B b l w h hBw
def Tryz.lays156_ren:Go.Shelf.Ren:=⟨fun | 156=>67 | 165=>90 | 166=>61 | 169=>63 | 240=>85 | 241=>111 | 276=>104 | 277=>124 | n=>n,fun | 31=>87 | 9=>9 | 3=>3 | 4=>4 | 0=>0 | 20=>20 | 72=>106 | 76=>109 | 70=>104 | 37=>65 | 75=>108 | 127=>141 | 164=>154 | 5=>5 | 80=>112 | n=>n,fun | n=>n⟩
theorem Tryz.lays156:Go.Proofs.Lays.n156 Tryz.prog Tryz.lays156_ren:={
 mixed:=by kernel_rfl
 f156:=Tryz.func67.trans (congrArg some (by kernel_rfl))
 f165:=Tryz.func90.trans (congrArg some (by kernel_rfl))
 f166:=Tryz.func61.trans (congrArg some (by kernel_rfl))
 f169:=Tryz.func63.trans (congrArg some (by kernel_rfl))
 f240:=Tryz.func85.trans (congrArg some (by kernel_rfl))
 f241:=Tryz.func111.trans (congrArg some (by kernel_rfl))
 f276:=Tryz.func104.trans (congrArg some (by kernel_rfl))
 f277:=Tryz.func124.trans (congrArg some (by kernel_rfl))
 t0:=Tryz.underlying0
 a0:=Tryz.isAgg0
 z0:=Tryz.sizeOf0
 v0:=Tryz.zeroValue0
 t3:=Tryz.underlying3
 a3:=Tryz.isAgg3
 z3:=Tryz.sizeOf3
 v3:=Tryz.zeroValue3
 t4:=Tryz.underlying4
 a4:=Tryz.isAgg4
 z4:=Tryz.sizeOf4
 v4:=Tryz.zeroValue4
 t9:=Tryz.underlying9
 a9:=Tryz.isAgg9
 z9:=Tryz.sizeOf9
 v9:=Tryz.zeroValue9
 t20:=Tryz.underlying20
 a20:=Tryz.isAgg20
 z20:=Tryz.sizeOf20
 v20:=Tryz.zeroValue20
 t31:=Tryz.underlying87
 a31:=Tryz.isAgg87
 z31:=Tryz.sizeOf87
 v31:=Tryz.zeroValue87
 t37:=Tryz.underlying65
 a37:=Tryz.isAgg65
 z37:=Tryz.sizeOf65
 v37:=Tryz.zeroValue65
 t70:=Tryz.underlying104
 a70:=Tryz.isAgg104
 z70:=Tryz.sizeOf104
 v70:=Tryz.zeroValue104
 t72:=Tryz.underlying106
 a72:=Tryz.isAgg106
 z72:=Tryz.sizeOf106
 v72:=Tryz.zeroValue106
 t75:=Tryz.underlying108
 a75:=Tryz.isAgg108
 z75:=Tryz.sizeOf108
 v75:=Tryz.zeroValue108
 t76:=Tryz.underlying109
 a76:=Tryz.isAgg109
 z76:=Tryz.sizeOf109
 v76:=Tryz.zeroValue109
 t127:=Tryz.underlying141
 a127:=Tryz.isAgg141
 z127:=Tryz.sizeOf141
 v127:=Tryz.zeroValue141
 t164:=Tryz.underlying154
 a164:=Tryz.isAgg154
 z164:=Tryz.sizeOf154
 v164:=Tryz.zeroValue154 }
theorem Tryz.Builder_Extra_156:Builder.Extra Tryz.prog Tryz.lays156_ren:={
 sizeBuilder:=by kernel_rfl
 liesBuilder:=by kernel_rfl
 t5:=Tryz.underlying5
 a5:=Tryz.isAgg5
 z5:=Tryz.sizeOf5
 v5:=Tryz.zeroValue5
 infoByte:=by kernel_rfl
 cellsByte:=by kernel_rfl
 sizeByte:=by kernel_rfl
 neB5:=by decide }
open Go.RowKit in
theorem Tryz.strings_Join (bk o c:Nat) (xs:List ByteArray) (sep:ByteArray) (w:World) (hcells:∀(j:Nat) x,xs[j]?=some x→w.cell? ⟨bk,o+j,none⟩=some (.string x)) (hbk:bk<w.heap.size) (hN:xs.length≤140737488355328) (hcap:xs.length≤c) (hlen:(Lib.join (xs.map (·.data.toList)) sep.data.toList).length≤140737488355328) :
 Calls Tryz.prog 67 #[.slice (some ⟨bk,o,none⟩) xs.length c,.string sep] w fun e w'=>e=.returned (.string ⟨(Lib.join (xs.map (·.data.toList)) sep.data.toList).toArray⟩)∧Below w.heap.size w w':=Any.strings_Join Tryz.lays156 Tryz.Builder_Extra_156 bk o c xs sep w hcells hbk hN hcap hlen
def Tryz.lays134_ren:Go.Shelf.Ren:=⟨fun | 134=>118 | 129=>120 | n=>n,fun | 53=>138 | 3=>3 | 4=>4 | 46=>167 | 5=>5 | 9=>9 | n=>n,fun | n=>n⟩
theorem Tryz.lays134:Go.Proofs.Lays.n134 Tryz.prog Tryz.lays134_ren:={
 mixed:=by kernel_rfl
 f129:=Tryz.func120.trans (congrArg some (by kernel_rfl))
 f134:=Tryz.func118.trans (congrArg some (by kernel_rfl))
 t3:=Tryz.underlying3
 a3:=Tryz.isAgg3
 z3:=Tryz.sizeOf3
 v3:=Tryz.zeroValue3
 t4:=Tryz.underlying4
 a4:=Tryz.isAgg4
 z4:=Tryz.sizeOf4
 v4:=Tryz.zeroValue4
 t5:=Tryz.underlying5
 a5:=Tryz.isAgg5
 z5:=Tryz.sizeOf5
 v5:=Tryz.zeroValue5
 t9:=Tryz.underlying9
 a9:=Tryz.isAgg9
 z9:=Tryz.sizeOf9
 v9:=Tryz.zeroValue9
 t46:=Tryz.underlying167
 a46:=Tryz.isAgg167
 z46:=Tryz.sizeOf167
 v46:=Tryz.zeroValue167
 t53:=Tryz.underlying138
 a53:=Tryz.isAgg138
 z53:=Tryz.sizeOf138
 v53:=Tryz.zeroValue138 }
theorem Tryz.bits_LeadingZeros64 (x:Int) (w:World) (h0:0≤x) (h1:x≤18446744073709551615) :
 Calls Tryz.prog 118 #[.int .u64 x] w fun e w'=>e=.returned (.int .i64 (64-(Lib.bitLen x.toNat:Int)))∧w'=w:=Any.bits_LeadingZeros64 Tryz.lays134 x w h0 h1
def Tryz.laysM171_ren:Go.Shelf.Ren:=⟨fun | 171=>66 | 243=>89 | 246=>86 | 283=>105 | 284=>106 | 285=>107 | 286=>108 | 129=>120 | 317=>119 | 318=>121 | 319=>122 | 320=>123 | 337=>133 | 338=>134 | n=>n,fun | 3=>3 | 9=>9 | 2=>2 | 4=>4 | 171=>156 | 0=>0 | 53=>138 | 37=>65 | 5=>5 | 173=>159 | 212=>170 | 51=>61 | 20=>20 | 213=>171 | 46=>167 | 232=>190 | 233=>191 | n=>n,fun | 17=>2 | 18=>4 | 19=>5 | n=>n⟩
theorem Tryz.laysM171:Go.Proofs.LaysM.n171 Tryz.prog Tryz.laysM171_ren:={
 mixed:=by kernel_rfl
 f129:=Tryz.func120.trans (congrArg some (by kernel_rfl))
 f171:=Tryz.func66.trans (congrArg some (by kernel_rfl))
 f243:=Tryz.func89.trans (congrArg some (by kernel_rfl))
 f246:=Tryz.func86.trans (congrArg some (by kernel_rfl))
 f283:=Tryz.func105.trans (congrArg some (by kernel_rfl))
 f284:=Tryz.func106.trans (congrArg some (by kernel_rfl))
 f285:=Tryz.func107.trans (congrArg some (by kernel_rfl))
 f286:=Tryz.func108.trans (congrArg some (by kernel_rfl))
 f317:=Tryz.func119.trans (congrArg some (by kernel_rfl))
 f318:=Tryz.func121.trans (congrArg some (by kernel_rfl))
 f319:=Tryz.func122.trans (congrArg some (by kernel_rfl))
 f320:=Tryz.func123.trans (congrArg some (by kernel_rfl))
 f337:=Tryz.func133.trans (congrArg some (by kernel_rfl))
 f338:=Tryz.func134.trans (congrArg some (by kernel_rfl))
 t0:=Tryz.underlying0
 a0:=Tryz.isAgg0
 z0:=Tryz.sizeOf0
 v0:=Tryz.zeroValue0
 t2:=Tryz.underlying2
 a2:=Tryz.isAgg2
 z2:=Tryz.sizeOf2
 v2:=Tryz.zeroValue2
 t3:=Tryz.underlying3
 a3:=Tryz.isAgg3
 z3:=Tryz.sizeOf3
 v3:=Tryz.zeroValue3
 t4:=Tryz.underlying4
 a4:=Tryz.isAgg4
 z4:=Tryz.sizeOf4
 v4:=Tryz.zeroValue4
 t5:=Tryz.underlying5
 a5:=Tryz.isAgg5
 z5:=Tryz.sizeOf5
 v5:=Tryz.zeroValue5
 t9:=Tryz.underlying9
 a9:=Tryz.isAgg9
 z9:=Tryz.sizeOf9
 v9:=Tryz.zeroValue9
 t20:=Tryz.underlying20
 a20:=Tryz.isAgg20
 z20:=Tryz.sizeOf20
 v20:=Tryz.zeroValue20
 t37:=Tryz.underlying65
 a37:=Tryz.isAgg65
 z37:=Tryz.sizeOf65
 v37:=Tryz.zeroValue65
 t46:=Tryz.underlying167
 a46:=Tryz.isAgg167
 z46:=Tryz.sizeOf167
 v46:=Tryz.zeroValue167
 t51:=Tryz.underlying61
 a51:=Tryz.isAgg61
 z51:=Tryz.sizeOf61
 v51:=Tryz.zeroValue61
 t53:=Tryz.underlying138
 a53:=Tryz.isAgg138
 z53:=Tryz.sizeOf138
 v53:=Tryz.zeroValue138
 t171:=Tryz.underlying156
 a171:=Tryz.isAgg156
 z171:=Tryz.sizeOf156
 v171:=Tryz.zeroValue156
 t173:=Tryz.underlying159
 a173:=Tryz.isAgg159
 z173:=Tryz.sizeOf159
 v173:=Tryz.zeroValue159
 t212:=Tryz.underlying170
 a212:=Tryz.isAgg170
 z212:=Tryz.sizeOf170
 v212:=Tryz.zeroValue170
 t213:=Tryz.underlying171
 a213:=Tryz.isAgg171
 z213:=Tryz.sizeOf171
 t232:=Tryz.underlying190
 a232:=Tryz.isAgg190
 z232:=Tryz.sizeOf190
 v232:=Tryz.zeroValue190
 t233:=Tryz.underlying191
 a233:=Tryz.isAgg191
 z233:=Tryz.sizeOf191
 v233:=Tryz.zeroValue191
 g17:=by kernel_rfl
 g18:=by kernel_rfl
 g19:=by kernel_rfl
 i0:=by kernel_rfl
 i2:=by kernel_rfl
 i3:=by kernel_rfl
 i4:=by kernel_rfl
 i5:=by kernel_rfl
 i9:=by kernel_rfl
 i20:=by kernel_rfl
 i37:=by kernel_rfl
 i46:=by kernel_rfl
 i51:=by kernel_rfl
 i53:=by kernel_rfl
 i171:=by kernel_rfl
 i173:=by kernel_rfl
 i212:=by kernel_rfl
 i232:=by kernel_rfl
 i233:=by kernel_rfl
 m17:=by kernel_rfl
 m18:=by kernel_rfl
 m19:=by kernel_rfl }
open Go.RowKit Go.Sort Go.Lib in
theorem Tryz.strconv_Itoa (n:Int) (h0:-9223372036854775808≤n) (h1:n≤9223372036854775807) (w:World) (htab:Lib.TabIs Tryz.prog w "internal/strconv.uint64pow10" .u64 Lib.pow10Tab) :
 Calls Tryz.prog 66 #[.int .i64 n] w fun e w'=>e=.returned (.string ⟨(Lib.itoa n).toArray⟩)∧∃k os,w'=grow (w.drewN k) os:=Any.strconv_Itoa Tryz.laysM171 n h0 h1 w htab
def Tryz.laysM173_ren:Go.Shelf.Ren:=⟨fun | 173=>62 | 246=>86 | 283=>105 | 284=>106 | 285=>107 | 286=>108 | 129=>120 | 317=>119 | 318=>121 | 319=>122 | 320=>123 | 337=>133 | 338=>134 | n=>n,fun | 2=>2 | 3=>3 | 9=>9 | 4=>4 | 171=>156 | 0=>0 | 53=>138 | 37=>65 | 5=>5 | 173=>159 | 212=>170 | 51=>61 | 20=>20 | 213=>171 | 46=>167 | 232=>190 | 233=>191 | n=>n,fun | 17=>2 | 18=>4 | 19=>5 | n=>n⟩
theorem Tryz.laysM173:Go.Proofs.LaysM.n173 Tryz.prog Tryz.laysM173_ren:={
 mixed:=by kernel_rfl
 f129:=Tryz.func120.trans (congrArg some (by kernel_rfl))
 f173:=Tryz.func62.trans (congrArg some (by kernel_rfl))
 f246:=Tryz.func86.trans (congrArg some (by kernel_rfl))
 f283:=Tryz.func105.trans (congrArg some (by kernel_rfl))
 f284:=Tryz.func106.trans (congrArg some (by kernel_rfl))
 f285:=Tryz.func107.trans (congrArg some (by kernel_rfl))
 f286:=Tryz.func108.trans (congrArg some (by kernel_rfl))
 f317:=Tryz.func119.trans (congrArg some (by kernel_rfl))
 f318:=Tryz.func121.trans (congrArg some (by kernel_rfl))
 f319:=Tryz.func122.trans (congrArg some (by kernel_rfl))
 f320:=Tryz.func123.trans (congrArg some (by kernel_rfl))
 f337:=Tryz.func133.trans (congrArg some (by kernel_rfl))
 f338:=Tryz.func134.trans (congrArg some (by kernel_rfl))
 t0:=Tryz.underlying0
 a0:=Tryz.isAgg0
 z0:=Tryz.sizeOf0
 v0:=Tryz.zeroValue0
 t2:=Tryz.underlying2
 a2:=Tryz.isAgg2
 z2:=Tryz.sizeOf2
 v2:=Tryz.zeroValue2
 t3:=Tryz.underlying3
 a3:=Tryz.isAgg3
 z3:=Tryz.sizeOf3
 v3:=Tryz.zeroValue3
 t4:=Tryz.underlying4
 a4:=Tryz.isAgg4
 z4:=Tryz.sizeOf4
 v4:=Tryz.zeroValue4
 t5:=Tryz.underlying5
 a5:=Tryz.isAgg5
 z5:=Tryz.sizeOf5
 v5:=Tryz.zeroValue5
 t9:=Tryz.underlying9
 a9:=Tryz.isAgg9
 z9:=Tryz.sizeOf9
 v9:=Tryz.zeroValue9
 t20:=Tryz.underlying20
 a20:=Tryz.isAgg20
 z20:=Tryz.sizeOf20
 v20:=Tryz.zeroValue20
 t37:=Tryz.underlying65
 a37:=Tryz.isAgg65
 z37:=Tryz.sizeOf65
 v37:=Tryz.zeroValue65
 t46:=Tryz.underlying167
 a46:=Tryz.isAgg167
 z46:=Tryz.sizeOf167
 v46:=Tryz.zeroValue167
 t51:=Tryz.underlying61
 a51:=Tryz.isAgg61
 z51:=Tryz.sizeOf61
 v51:=Tryz.zeroValue61
 t53:=Tryz.underlying138
 a53:=Tryz.isAgg138
 z53:=Tryz.sizeOf138
 v53:=Tryz.zeroValue138
 t171:=Tryz.underlying156
 a171:=Tryz.isAgg156
 z171:=Tryz.sizeOf156
 v171:=Tryz.zeroValue156
 t173:=Tryz.underlying159
 a173:=Tryz.isAgg159
 z173:=Tryz.sizeOf159
 v173:=Tryz.zeroValue159
 t212:=Tryz.underlying170
 a212:=Tryz.isAgg170
 z212:=Tryz.sizeOf170
 v212:=Tryz.zeroValue170
 t213:=Tryz.underlying171
 a213:=Tryz.isAgg171
 z213:=Tryz.sizeOf171
 t232:=Tryz.underlying190
 a232:=Tryz.isAgg190
 z232:=Tryz.sizeOf190
 v232:=Tryz.zeroValue190
 t233:=Tryz.underlying191
 a233:=Tryz.isAgg191
 z233:=Tryz.sizeOf191
 v233:=Tryz.zeroValue191
 g17:=by kernel_rfl
 g18:=by kernel_rfl
 g19:=by kernel_rfl
 i0:=by kernel_rfl
 i2:=by kernel_rfl
 i3:=by kernel_rfl
 i4:=by kernel_rfl
 i5:=by kernel_rfl
 i9:=by kernel_rfl
 i20:=by kernel_rfl
 i37:=by kernel_rfl
 i46:=by kernel_rfl
 i51:=by kernel_rfl
 i53:=by kernel_rfl
 i171:=by kernel_rfl
 i173:=by kernel_rfl
 i212:=by kernel_rfl
 i232:=by kernel_rfl
 i233:=by kernel_rfl
 m17:=by kernel_rfl
 m18:=by kernel_rfl
 m19:=by kernel_rfl }
open Go.RowKit Go.Sort Go.Lib in
theorem Tryz.strconv_FormatInt_10 (n:Int) (h0:-9223372036854775808≤n) (h1:n≤9223372036854775807) (w:World) (htab:Lib.TabIs Tryz.prog w "internal/strconv.uint64pow10" .u64 Lib.pow10Tab) :
 Calls Tryz.prog 62 #[.int .i64 n,.int .i64 10] w fun e w'=>e=.returned (.string ⟨(Lib.itoa n).toArray⟩)∧∃k os,w'=grow (w.drewN k) os:=Any.strconv_FormatInt_10 Tryz.laysM173 n h0 h1 w htab
def Tryz.laysM316_ren:Go.Shelf.Ren:=⟨fun | 316=>99 | n=>n,fun | 9=>9 | 3=>3 | 4=>4 | 37=>65 | 0=>0 | 127=>141 | 5=>5 | n=>n,fun | n=>n⟩
theorem Tryz.laysM316:Go.Proofs.LaysM.n316 Tryz.prog Tryz.laysM316_ren:={
 mixed:=by kernel_rfl
 f316:=Tryz.func99.trans (congrArg some (by kernel_rfl))
 t0:=Tryz.underlying0
 a0:=Tryz.isAgg0
 z0:=Tryz.sizeOf0
 v0:=Tryz.zeroValue0
 t3:=Tryz.underlying3
 a3:=Tryz.isAgg3
 z3:=Tryz.sizeOf3
 v3:=Tryz.zeroValue3
 t4:=Tryz.underlying4
 a4:=Tryz.isAgg4
 z4:=Tryz.sizeOf4
 v4:=Tryz.zeroValue4
 t9:=Tryz.underlying9
 a9:=Tryz.isAgg9
 z9:=Tryz.sizeOf9
 v9:=Tryz.zeroValue9
 t37:=Tryz.underlying65
 a37:=Tryz.isAgg65
 z37:=Tryz.sizeOf65
 v37:=Tryz.zeroValue65
 t127:=Tryz.underlying141
 a127:=Tryz.isAgg141
 z127:=Tryz.sizeOf141
 v127:=Tryz.zeroValue141
 t5:=Tryz.underlying5
 a5:=Tryz.isAgg5
 z5:=Tryz.sizeOf5
 v5:=Tryz.zeroValue5
 i0:=by kernel_rfl
 i3:=by kernel_rfl
 i4:=by kernel_rfl
 i5:=by kernel_rfl
 i9:=by kernel_rfl
 i37:=by kernel_rfl
 i127:=by kernel_rfl }
open Go.RowKit in
theorem Tryz.stringslite_Clone (s:ByteArray) (w:World) (hlim:s.size≤281474976710656) :
 Calls Tryz.prog 99 #[.string s] w fun e w'=>e=.returned (.string s)∧Below w.heap.size w w':=Any.stringslite_Clone Tryz.laysM316 s w hlim
def Tryz.laysC174_ren:Go.Shelf.Ren:=⟨fun | 174=>114 | 247=>130 | 245=>131 | 287=>139 | 279=>140 | 280=>141 | 281=>142 | 282=>143 | 321=>149 | 322=>150 | 316=>99 | 171=>66 | 205=>151 | 243=>89 | 246=>86 | 283=>105 | 284=>106 | 285=>107 | 286=>108 | 129=>120 | 317=>119 | 318=>121 | 319=>122 | 320=>123 | 337=>133 | 338=>134 | n=>n,fun | 9=>9 | 3=>3 | 2=>2 | 75=>108 | 85=>163 | 4=>4 | 167=>184 | 5=>5 | 53=>138 | 175=>185 | 46=>167 | 168=>187 | 37=>65 | 0=>0 | 210=>198 | 21=>21 | 127=>141 | 145=>204 | 143=>202 | 171=>156 | 173=>159 | 212=>170 | 51=>61 | 20=>20 | 213=>171 | 232=>190 | 233=>191 | 80=>112 | n=>n,fun | 15=>8 | 16=>9 | 17=>2 | 18=>4 | 19=>5 | n=>n⟩
theorem Tryz.laysC174:Go.Proofs.LaysC.n174 Tryz.prog Tryz.laysC174_ren:={
 mixed:=by kernel_rfl
 f129:=Tryz.func120.trans (congrArg some (by kernel_rfl))
 f171:=Tryz.func66.trans (congrArg some (by kernel_rfl))
 f174:=Tryz.func114.trans (congrArg some (by kernel_rfl))
 f205:=Tryz.func151.trans (congrArg some (by kernel_rfl))
 f243:=Tryz.func89.trans (congrArg some (by kernel_rfl))
 f245:=Tryz.func131.trans (congrArg some (by kernel_rfl))
 f246:=Tryz.func86.trans (congrArg some (by kernel_rfl))
 f247:=Tryz.func130.trans (congrArg some (by kernel_rfl))
 f279:=Tryz.func140.trans (congrArg some (by kernel_rfl))
 f280:=Tryz.func141.trans (congrArg some (by kernel_rfl))
 f281:=Tryz.func142.trans (congrArg some (by kernel_rfl))
 f282:=Tryz.func143.trans (congrArg some (by kernel_rfl))
 f283:=Tryz.func105.trans (congrArg some (by kernel_rfl))
 f284:=Tryz.func106.trans (congrArg some (by kernel_rfl))
 f285:=Tryz.func107.trans (congrArg some (by kernel_rfl))
 f286:=Tryz.func108.trans (congrArg some (by kernel_rfl))
 f287:=Tryz.func139.trans (congrArg some (by kernel_rfl))
 f316:=Tryz.func99.trans (congrArg some (by kernel_rfl))
 f317:=Tryz.func119.trans (congrArg some (by kernel_rfl))
 f318:=Tryz.func121.trans (congrArg some (by kernel_rfl))
 f319:=Tryz.func122.trans (congrArg some (by kernel_rfl))
 f320:=Tryz.func123.trans (congrArg some (by kernel_rfl))
 f321:=Tryz.func149.trans (congrArg some (by kernel_rfl))
 f322:=Tryz.func150.trans (congrArg some (by kernel_rfl))
 f337:=Tryz.func133.trans (congrArg some (by kernel_rfl))
 f338:=Tryz.func134.trans (congrArg some (by kernel_rfl))
 t0:=Tryz.underlying0
 a0:=Tryz.isAgg0
 z0:=Tryz.sizeOf0
 v0:=Tryz.zeroValue0
 t2:=Tryz.underlying2
 a2:=Tryz.isAgg2
 z2:=Tryz.sizeOf2
 v2:=Tryz.zeroValue2
 t3:=Tryz.underlying3
 a3:=Tryz.isAgg3
 z3:=Tryz.sizeOf3
 v3:=Tryz.zeroValue3
 t4:=Tryz.underlying4
 a4:=Tryz.isAgg4
 z4:=Tryz.sizeOf4
 v4:=Tryz.zeroValue4
 t5:=Tryz.underlying5
 a5:=Tryz.isAgg5
 z5:=Tryz.sizeOf5
 v5:=Tryz.zeroValue5
 t9:=Tryz.underlying9
 a9:=Tryz.isAgg9
 z9:=Tryz.sizeOf9
 v9:=Tryz.zeroValue9
 t20:=Tryz.underlying20
 a20:=Tryz.isAgg20
 z20:=Tryz.sizeOf20
 v20:=Tryz.zeroValue20
 t21:=Tryz.underlying21
 a21:=Tryz.isAgg21
 z21:=Tryz.sizeOf21
 v21:=Tryz.zeroValue21
 t37:=Tryz.underlying65
 a37:=Tryz.isAgg65
 z37:=Tryz.sizeOf65
 v37:=Tryz.zeroValue65
 t46:=Tryz.underlying167
 a46:=Tryz.isAgg167
 z46:=Tryz.sizeOf167
 v46:=Tryz.zeroValue167
 t51:=Tryz.underlying61
 a51:=Tryz.isAgg61
 z51:=Tryz.sizeOf61
 v51:=Tryz.zeroValue61
 t53:=Tryz.underlying138
 a53:=Tryz.isAgg138
 z53:=Tryz.sizeOf138
 v53:=Tryz.zeroValue138
 t75:=Tryz.underlying108
 a75:=Tryz.isAgg108
 z75:=Tryz.sizeOf108
 v75:=Tryz.zeroValue108
 t85:=Tryz.underlying163
 a85:=Tryz.isAgg163
 z85:=Tryz.sizeOf163
 v85:=Tryz.zeroValue163
 t127:=Tryz.underlying141
 a127:=Tryz.isAgg141
 z127:=Tryz.sizeOf141
 v127:=Tryz.zeroValue141
 t143:=Tryz.underlying202
 a143:=Tryz.isAgg202
 z143:=Tryz.sizeOf202
 v143:=Tryz.zeroValue202
 t145:=Tryz.underlying204
 a145:=Tryz.isAgg204
 z145:=Tryz.sizeOf204
 v145:=Tryz.zeroValue204
 t167:=Tryz.underlying184
 a167:=Tryz.isAgg184
 z167:=Tryz.sizeOf184
 v167:=Tryz.zeroValue184
 t168:=Tryz.underlying187
 a168:=Tryz.isAgg187
 z168:=Tryz.sizeOf187
 v168:=Tryz.zeroValue187
 t171:=Tryz.underlying156
 a171:=Tryz.isAgg156
 z171:=Tryz.sizeOf156
 v171:=Tryz.zeroValue156
 t173:=Tryz.underlying159
 a173:=Tryz.isAgg159
 z173:=Tryz.sizeOf159
 v173:=Tryz.zeroValue159
 t175:=Tryz.underlying185
 a175:=Tryz.isAgg185
 z175:=Tryz.sizeOf185
 v175:=Tryz.zeroValue185
 t210:=Tryz.underlying198
 a210:=Tryz.isAgg198
 z210:=Tryz.sizeOf198
 v210:=Tryz.zeroValue198
 t212:=Tryz.underlying170
 a212:=Tryz.isAgg170
 z212:=Tryz.sizeOf170
 v212:=Tryz.zeroValue170
 t213:=Tryz.underlying171
 a213:=Tryz.isAgg171
 z213:=Tryz.sizeOf171
 t232:=Tryz.underlying190
 a232:=Tryz.isAgg190
 z232:=Tryz.sizeOf190
 v232:=Tryz.zeroValue190
 t233:=Tryz.underlying191
 a233:=Tryz.isAgg191
 z233:=Tryz.sizeOf191
 v233:=Tryz.zeroValue191
 g15:=by kernel_rfl
 g16:=by kernel_rfl
 g17:=by kernel_rfl
 g18:=by kernel_rfl
 g19:=by kernel_rfl
 t80:=Tryz.underlying112
 a80:=Tryz.isAgg112
 z80:=Tryz.sizeOf112
 v80:=Tryz.zeroValue112
 i0:=by kernel_rfl
 i2:=by kernel_rfl
 i3:=by kernel_rfl
 i4:=by kernel_rfl
 i5:=by kernel_rfl
 i9:=by kernel_rfl
 i20:=by kernel_rfl
 i21:=by kernel_rfl
 i37:=by kernel_rfl
 i46:=by kernel_rfl
 i51:=by kernel_rfl
 i53:=by kernel_rfl
 i75:=by kernel_rfl
 i80:=by kernel_rfl
 i85:=by kernel_rfl
 i127:=by kernel_rfl
 i143:=by kernel_rfl
 i145:=by kernel_rfl
 i167:=by kernel_rfl
 i168:=by kernel_rfl
 i171:=by kernel_rfl
 i173:=by kernel_rfl
 i175:=by kernel_rfl
 i210:=by kernel_rfl
 i212:=by kernel_rfl
 i232:=by kernel_rfl
 i233:=by kernel_rfl
 m15:=by kernel_rfl
 m16:=by kernel_rfl
 m17:=by kernel_rfl
 m18:=by kernel_rfl
 m19:=by kernel_rfl
 c0:=by kernel_rfl
 c2:=by kernel_rfl
 c3:=by kernel_rfl
 c4:=by kernel_rfl
 c5:=by kernel_rfl
 c9:=by kernel_rfl
 c20:=by kernel_rfl
 c21:=by kernel_rfl
 c37:=by kernel_rfl
 c46:=by kernel_rfl
 c51:=by kernel_rfl
 c53:=by kernel_rfl
 c75:=by kernel_rfl
 c80:=by kernel_rfl
 c85:=by kernel_rfl
 c127:=by kernel_rfl
 c143:=by kernel_rfl
 c145:=by kernel_rfl
 c167:=by kernel_rfl
 c168:=by kernel_rfl
 c171:=by kernel_rfl
 c173:=by kernel_rfl
 c175:=by kernel_rfl
 c210:=by kernel_rfl
 c212:=by kernel_rfl
 c213:=by kernel_rfl
 c232:=by kernel_rfl
 c233:=by kernel_rfl }
open Go.RowKit in
theorem Tryz.strconv_ParseInt_10_at64_ok (s:ByteArray) (hmax:s.size≤9223372036854775806) (v:Int) (h:Lib.parseIntB 64 s.data.toList=.ok v) (w:World) :
 Calls Tryz.prog 114 #[.string s,.int .i64 10,.int .i64 64] w fun e w'=>e=.returned (.tuple #[.int .i64 v,.nilIface])∧(w'=w∨∃t,w'=Lib.bytesWorld w 5 t):=Any.strconv_ParseInt_10_at64_ok Tryz.laysC174 s hmax v h w
open Go.RowKit in
theorem Tryz.strconv_ParseInt_10_at64_range (s:ByteArray) (hlim:s.size≤281474976710656) (h:Lib.parseIntB 64 s.data.toList=.range) (ev:Value) (w:World) (hv:w.cell? ⟨9,0,none⟩=some ev) (hev:ev=.nilIface∨∃te pe,ev=.iface te pe) :
 Calls Tryz.prog 114 #[.string s,.int .i64 10,.int .i64 64] w fun e w'=>∃N,e=.returned (.tuple #[.int .i64 (Lib.intSat 64 s.data.toList),.iface 187 (.pointer (some ⟨N,0,none⟩))])∧w.heap.size≤N∧w'.heap[N]?=some (.cells #[.string ⟨#[80,97,114,115,101,73,110,116]⟩,.string s,ev] 198 (0,0))∧Below w.heap.size w w':=Any.strconv_ParseInt_10_at64_range Tryz.laysC174 s hlim h ev w hv hev
def Tryz.lays143_ren:Go.Shelf.Ren:=⟨fun | 143=>127 | 219=>137 | 217=>145 | 225=>146 | 224=>147 | 267=>148 | 266=>152 | 314=>153 | n=>n,fun | 9=>9 | 3=>3 | 4=>4 | 5=>5 | 46=>167 | 146=>200 | 51=>61 | n=>n,fun | 1=>3 | n=>n⟩
theorem Tryz.lays143:Go.Proofs.Lays.n143 Tryz.prog Tryz.lays143_ren:={
 mixed:=by kernel_rfl
 f143:=Tryz.func127.trans (congrArg some (by kernel_rfl))
 f217:=Tryz.func145.trans (congrArg some (by kernel_rfl))
 f219:=Tryz.func137.trans (congrArg some (by kernel_rfl))
 f224:=Tryz.func147.trans (congrArg some (by kernel_rfl))
 f225:=Tryz.func146.trans (congrArg some (by kernel_rfl))
 f266:=Tryz.func152.trans (congrArg some (by kernel_rfl))
 f267:=Tryz.func148.trans (congrArg some (by kernel_rfl))
 f314:=Tryz.func153.trans (congrArg some (by kernel_rfl))
 t3:=Tryz.underlying3
 a3:=Tryz.isAgg3
 z3:=Tryz.sizeOf3
 v3:=Tryz.zeroValue3
 t4:=Tryz.underlying4
 a4:=Tryz.isAgg4
 z4:=Tryz.sizeOf4
 v4:=Tryz.zeroValue4
 t5:=Tryz.underlying5
 a5:=Tryz.isAgg5
 z5:=Tryz.sizeOf5
 v5:=Tryz.zeroValue5
 t9:=Tryz.underlying9
 a9:=Tryz.isAgg9
 z9:=Tryz.sizeOf9
 v9:=Tryz.zeroValue9
 t46:=Tryz.underlying167
 a46:=Tryz.isAgg167
 z46:=Tryz.sizeOf167
 v46:=Tryz.zeroValue167
 t51:=Tryz.underlying61
 a51:=Tryz.isAgg61
 z51:=Tryz.sizeOf61
 v51:=Tryz.zeroValue61
 t146:=Tryz.underlying200
 a146:=Tryz.isAgg200
 z146:=Tryz.sizeOf200
 v146:=Tryz.zeroValue200
 g1:=by kernel_rfl }
open Go.RowKit Go.Lib in
theorem Tryz.strings_Index (s sub:ByteArray) (m:Int) (w:World) (hs:s.size<4294967281) (hm:w.cell? ⟨3,0,none⟩=some (.int .i64 m)) :
 Calls Tryz.prog 127 #[.string s,.string sub] w fun e w'=>e=.returned (.int .i64 (Lib.index s.data.toList sub.data.toList))∧w'=w:=Any.strings_Index Tryz.lays143 s sub m w hs hm
def Tryz.lays145_ren:Go.Shelf.Ren:=⟨fun | 145=>132 | 220=>144 | 219=>137 | 217=>145 | 225=>146 | 224=>147 | 267=>148 | 266=>152 | 314=>153 | n=>n,fun | 9=>9 | 4=>4 | 59=>180 | 3=>3 | 5=>5 | 46=>167 | 146=>200 | 51=>61 | n=>n,fun | 1=>3 | n=>n⟩
theorem Tryz.lays145:Go.Proofs.Lays.n145 Tryz.prog Tryz.lays145_ren:={
 mixed:=by kernel_rfl
 f145:=Tryz.func132.trans (congrArg some (by kernel_rfl))
 f217:=Tryz.func145.trans (congrArg some (by kernel_rfl))
 f219:=Tryz.func137.trans (congrArg some (by kernel_rfl))
 f220:=Tryz.func144.trans (congrArg some (by kernel_rfl))
 f224:=Tryz.func147.trans (congrArg some (by kernel_rfl))
 f225:=Tryz.func146.trans (congrArg some (by kernel_rfl))
 f266:=Tryz.func152.trans (congrArg some (by kernel_rfl))
 f267:=Tryz.func148.trans (congrArg some (by kernel_rfl))
 f314:=Tryz.func153.trans (congrArg some (by kernel_rfl))
 t3:=Tryz.underlying3
 a3:=Tryz.isAgg3
 z3:=Tryz.sizeOf3
 v3:=Tryz.zeroValue3
 t4:=Tryz.underlying4
 a4:=Tryz.isAgg4
 z4:=Tryz.sizeOf4
 v4:=Tryz.zeroValue4
 t5:=Tryz.underlying5
 a5:=Tryz.isAgg5
 z5:=Tryz.sizeOf5
 v5:=Tryz.zeroValue5
 t9:=Tryz.underlying9
 a9:=Tryz.isAgg9
 z9:=Tryz.sizeOf9
 v9:=Tryz.zeroValue9
 t46:=Tryz.underlying167
 a46:=Tryz.isAgg167
 z46:=Tryz.sizeOf167
 v46:=Tryz.zeroValue167
 t51:=Tryz.underlying61
 a51:=Tryz.isAgg61
 z51:=Tryz.sizeOf61
 v51:=Tryz.zeroValue61
 t59:=Tryz.underlying180
 a59:=Tryz.isAgg180
 z59:=Tryz.sizeOf180
 v59:=Tryz.zeroValue180
 t146:=Tryz.underlying200
 a146:=Tryz.isAgg200
 z146:=Tryz.sizeOf200
 v146:=Tryz.zeroValue200
 g1:=by kernel_rfl }
open Go.RowKit Go.Lib in
theorem Tryz.strings_Cut (s sep:ByteArray) (m:Int) (w:World) (hs:s.size<4294967281) (hm:w.cell? ⟨3,0,none⟩=some (.int .i64 m)) :
 Calls Tryz.prog 132 #[.string s,.string sep] w fun e w'=>e=.returned (.tuple #[.string ⟨(Lib.cut s.data.toList sep.data.toList).1.toArray⟩,.string ⟨(Lib.cut s.data.toList sep.data.toList).2.1.toArray⟩,.bool (Lib.cut s.data.toList sep.data.toList).2.2])∧∃n,w'=w.drewN n:=Any.strings_Cut Tryz.lays145 s sep m w hs hm
def Tryz.lays147_ren:Go.Shelf.Ren:=⟨fun | 147=>91 | 221=>112 | 268=>125 | 138=>126 | 143=>127 | 195=>135 | 197=>129 | 218=>136 | 219=>137 | 260=>138 | 217=>145 | 225=>146 | 224=>147 | 267=>148 | 266=>152 | 314=>153 | n=>n,fun | 9=>9 | 3=>3 | 31=>87 | 4=>4 | 0=>0 | 105=>177 | 21=>21 | 5=>5 | 46=>167 | 119=>192 | 139=>195 | 138=>194 | 146=>200 | 51=>61 | n=>n,fun | 1=>3 | 3=>6 | 4=>7 | n=>n⟩
theorem Tryz.lays147:Go.Proofs.Lays.n147 Tryz.prog Tryz.lays147_ren:={
 mixed:=by kernel_rfl
 f138:=Tryz.func126.trans (congrArg some (by kernel_rfl))
 f143:=Tryz.func127.trans (congrArg some (by kernel_rfl))
 f147:=Tryz.func91.trans (congrArg some (by kernel_rfl))
 f195:=Tryz.func135.trans (congrArg some (by kernel_rfl))
 f197:=Tryz.func129.trans (congrArg some (by kernel_rfl))
 f217:=Tryz.func145.trans (congrArg some (by kernel_rfl))
 f218:=Tryz.func136.trans (congrArg some (by kernel_rfl))
 f219:=Tryz.func137.trans (congrArg some (by kernel_rfl))
 f221:=Tryz.func112.trans (congrArg some (by kernel_rfl))
 f224:=Tryz.func147.trans (congrArg some (by kernel_rfl))
 f225:=Tryz.func146.trans (congrArg some (by kernel_rfl))
 f260:=Tryz.func138.trans (congrArg some (by kernel_rfl))
 f266:=Tryz.func152.trans (congrArg some (by kernel_rfl))
 f267:=Tryz.func148.trans (congrArg some (by kernel_rfl))
 f268:=Tryz.func125.trans (congrArg some (by kernel_rfl))
 f314:=Tryz.func153.trans (congrArg some (by kernel_rfl))
 t0:=Tryz.underlying0
 a0:=Tryz.isAgg0
 z0:=Tryz.sizeOf0
 v0:=Tryz.zeroValue0
 t3:=Tryz.underlying3
 a3:=Tryz.isAgg3
 z3:=Tryz.sizeOf3
 v3:=Tryz.zeroValue3
 t4:=Tryz.underlying4
 a4:=Tryz.isAgg4
 z4:=Tryz.sizeOf4
 v4:=Tryz.zeroValue4
 t5:=Tryz.underlying5
 a5:=Tryz.isAgg5
 z5:=Tryz.sizeOf5
 v5:=Tryz.zeroValue5
 t9:=Tryz.underlying9
 a9:=Tryz.isAgg9
 z9:=Tryz.sizeOf9
 v9:=Tryz.zeroValue9
 t21:=Tryz.underlying21
 a21:=Tryz.isAgg21
 z21:=Tryz.sizeOf21
 v21:=Tryz.zeroValue21
 t31:=Tryz.underlying87
 a31:=Tryz.isAgg87
 z31:=Tryz.sizeOf87
 v31:=Tryz.zeroValue87
 t46:=Tryz.underlying167
 a46:=Tryz.isAgg167
 z46:=Tryz.sizeOf167
 v46:=Tryz.zeroValue167
 t51:=Tryz.underlying61
 a51:=Tryz.isAgg61
 z51:=Tryz.sizeOf61
 v51:=Tryz.zeroValue61
 t105:=Tryz.underlying177
 a105:=Tryz.isAgg177
 z105:=Tryz.sizeOf177
 v105:=Tryz.zeroValue177
 t119:=Tryz.underlying192
 a119:=Tryz.isAgg192
 z119:=Tryz.sizeOf192
 t138:=Tryz.underlying194
 a138:=Tryz.isAgg194
 z138:=Tryz.sizeOf194
 v138:=Tryz.zeroValue194
 t139:=Tryz.underlying195
 a139:=Tryz.isAgg195
 z139:=Tryz.sizeOf195
 v139:=Tryz.zeroValue195
 t146:=Tryz.underlying200
 a146:=Tryz.isAgg200
 z146:=Tryz.sizeOf200
 v146:=Tryz.zeroValue200
 g1:=by kernel_rfl
 g3:=by kernel_rfl
 g4:=by kernel_rfl }
open Go.RowKit Go.Lib in
theorem Tryz.strings_SplitN (s sep:ByteArray) (n:Nat) (m:Int) (w:World) (hs:s.size<4294967281) (hm:w.cell? ⟨3,0,none⟩=some (.int .i64 m)) (h1:1≤sep.size) (hn:1≤n) (hn63:n≤9223372036854775807) :
 Calls Tryz.prog 91 #[.string s,.string sep,.int .i64 n] w fun e w' =>
  e=.returned (.slice (some ⟨w.heap.size,0,none⟩) (Lib.splitB sep 0 (min n (s.size+1)-1) s).length (min n (s.size+1)))∧w'=w.alloc (.cells (Lib.cellsOf (Lib.splitB sep 0 (min n (s.size+1)-1) s) (min n (s.size+1))) 9):=Any.strings_SplitN Tryz.lays147 (by kernel_rfl) s sep n m w hs hm h1 hn hn63
def Tryz.lays264_ren:Go.Shelf.Ren:=⟨fun | 264=>102 | n=>n,fun | 53=>138 | 46=>167 | n=>n,fun | n=>n⟩
theorem Tryz.lays264:Go.Proofs.Lays.n264 Tryz.prog Tryz.lays264_ren:={
 mixed:=by kernel_rfl
 f264:=Tryz.func102.trans (congrArg some (by kernel_rfl))
 t46:=Tryz.underlying167
 a46:=Tryz.isAgg167
 z46:=Tryz.sizeOf167
 v46:=Tryz.zeroValue167
 t53:=Tryz.underlying138
 a53:=Tryz.isAgg138
 z53:=Tryz.sizeOf138
 v53:=Tryz.zeroValue138 }
open Go.RowKit Go.Lib in
theorem Tryz.bits_Mul64 (x y:Nat) (hx:x<18446744073709551616) (hy:y<18446744073709551616) (w:World) :
 Calls Tryz.prog 102 #[.int .u64 x,.int .u64 y] w fun e w'=>e=.returned (.tuple #[.int .u64 ((x*y / 18446744073709551616:Nat):Int),.int .u64 ((x*y % 18446744073709551616:Nat):Int)])∧w'=w:=Any.bits_Mul64 Tryz.lays264 x y hx hy w
end Go.Proofs
namespace Go.Proofs.YtnfojaidmnccoaaGreatDoor.Vec
open Go.RowKit
theorem Zs (x y:Int) (hx:0≤x) (hy:0≤y) (hx':x≤9223372036854775807) (hy':y≤9223372036854775807) (w:World) :
 Calls Tryz.prog 102 #[.int .u64 x,.int .u64 y] w fun e w'=>e=.returned (.tuple #[.int .u64 (j5 x y),.int .u64 (zO x y)])∧w=w':=by
 obtain⟨a,rfl⟩:=Int.eq_ofNat_of_zero_le hx;obtain⟨b,rfl⟩:=Int.eq_ofNat_of_zero_le hy;refine(Tryz.bits_Mul64 a b (by omega) (by omega) w).mono ?_;rintro e w' ⟨rfl,rfl⟩;refine⟨?_,rfl⟩
 rw[show j5 (a:Int) (b:Int)=((a*b / 18446744073709551616:Nat):Int) from by unfold j5;rw[←Int.natCast_mul];omega,
  show zO (a:Int) (b:Int)=((a*b % 18446744073709551616:Nat):Int) from by unfold zO;rw[←Int.natCast_mul];omega]
theorem jbT (w:World) :
 Calls Tryz.prog 118 #[.int .u64 1000] w fun e w'=>e=.returned (.int .i64 54)∧w=w':=by
 refine(Tryz.bits_LeadingZeros64 1000 w (by omega) (by omega)).mono ?_;rintro e w' ⟨rfl,rfl⟩;exact⟨by rw[show (64:Int)-(Lib.bitLen (1000:Int).toNat:Int)=54 from by decide +kernel],rfl⟩
theorem jaC (l:Int) (h0:0≤l) (h1:l≤18446744073709551615) (w:World) :
 Calls Tryz.prog 103 #[.int .u64 0,.int .u64 l,.int .u64 1000] w fun e w'=>e=.returned (.tuple #[.int .u64 (Ze 0 l),.int .u64 (Zz 0 l)])∧∃n,w'=w.drewN n:=by
 go_enter Tryz.func103,Tryz.ntmps103;go_wp2;go_quiet (fail)
 go_wp2;go_ret2
 exact⟨by unfold Ze Zz;simp,_,rfl⟩
theorem qX (h l:Int) (hh:0≤h) (hh':h≤999) (h0:0≤l) (h1:l≤18446744073709551615) :
 bits .or .u64 (h*18014398509481984) (l / 1024)=h*18014398509481984+l / 1024:=by
 obtain⟨a,rfl⟩:=Int.eq_ofNat_of_zero_le hh;obtain⟨b,rfl⟩:=Int.eq_ofNat_of_zero_le h0;have e1:(a:Int)*18014398509481984=((a*18014398509481984:Nat):Int):=by omega
 have e2:(b:Int) / 1024=((b / 1024:Nat):Int):=by omega
 rw[e1,e2,bits_or_u64_nat _ _ (by omega) (by omega)];have e3:2 ^ 54*a+b / 1024=2 ^ 54*a ||| b / 1024:=Nat.two_pow_add_eq_or_of_lt (by omega) a
 rw[show a*18014398509481984=2 ^ 54*a from by omega,←e3];omega
theorem qm (t:Int) (h0:0≤t) (h1:t≤1023):bits .and .u64 (t*18014398509481984) 4294967295=0:=by
 obtain⟨a,rfl⟩:=Int.eq_ofNat_of_zero_le h0;have e1:(a:Int)*18014398509481984=((a*18014398509481984:Nat):Int):=by omega
 have e:a*18014398509481984 &&& 4294967295=a*18014398509481984 % 4294967296:=Nat.and_two_pow_sub_one_eq_mod _ 32;have h:=bits_and_u64_nat (a*18014398509481984) 4294967295 (by omega) (by omega);rw[e1];rw[e] at h;refine h.trans ?_;omega
theorem Xm (l:Int) (h0:0≤l) (h1:l≤18446744073709551615):IntKind.u64.wrap (l*18014398509481984)=l % 1024*18014398509481984:=by
 rw[IntKind.wrap_u64];omega
theorem q9 (U T:Int) (u0:0≤U) (u1:U≤18014398509481983999) (t0:0≤T) (t1:T≤1023) :
 IntKind.u64.wrap (IntKind.u64.wrap (IntKind.u64.wrap (U*4294967296)+T*18014398509481984 / 4294967296)-IntKind.u64.wrap (U / 4194304000*18014398509481984000))=U % 4194304000*4294967296+T*4194304:=by
 simp only[IntKind.wrap_u64];omega
theorem XR (V:Int) (v0:0≤V) (v1:V≤18014398509481983999) :
 IntKind.u64.wrap (IntKind.u64.wrap (IntKind.u64.wrap (V*4294967296))-IntKind.u64.wrap (V / 4194304000*18014398509481984000))=V % 4194304000*4294967296:=by
 simp only[IntKind.wrap_u64];omega
theorem jcx (h l:Int) (h0:0≤l) (h1:l≤18446744073709551615) :
 (h*18014398509481984+l / 1024) / 4194304000*4294967296+((h*18014398509481984+l / 1024) % 4194304000*4294967296+l % 1024*4194304) / 4194304000=Ze h l:=by
 unfold Ze;omega
theorem jcH (h l:Int) (h0:0≤l) (h1:l≤18446744073709551615) :
 ((h*18014398509481984+l / 1024) % 4194304000*4294967296+l % 1024*4194304) % 4194304000*4294967296 / 18014398509481984=Zz h l:=by
 unfold Zz;omega
theorem q5 (h l:Int) (hh:1≤h) (hh':h≤999) (h0:0≤l) (h1:l≤18446744073709551615) (w:World) :
 Calls Tryz.prog 103 #[.int .u64 h,.int .u64 l,.int .u64 1000] w fun e w'=>e=.returned (.tuple #[.int .u64 (Ze h l),.int .u64 (Zz h l)])∧∃n,w'=w.drewN n:=by
 have e0:bits .and .u64 18014398509481984000 4294967295=0:=qm 1000 (by omega) (by omega);have e1:=qX h l (by omega) hh' h0 h1;have e2:=Xm l h0 h1;have e3:=qm (l % 1024) (by omega) (by omega);obtain⟨U,hU⟩:=eX (h*18014398509481984+l / 1024)
 obtain⟨T,hT⟩:=eX (l % 1024)
 rw[hU] at e1;rw[hT] at e2 e3;have u0:0≤U:=by omega
 have u1:U≤18014398509481983999:=by omega
 have t0:0≤T:=by omega
 have t1:T≤1023:=by omega
 have e4:=q9 U T (by omega) (by omega) (by omega) (by omega);obtain⟨V,hV⟩:=eX (U % 4194304000*4294967296+T*4194304)
 rw[hV] at e4;have v0:0≤V:=by omega
 have v1:V≤18014398509481983999:=by omega
 have e5:=XR V v0 v1;have q1:=jcx h l h0 h1;have r1:=jcH h l h0 h1;rw[hU,hT,hV] at q1 r1;have Q1:=lH q1;have R1:=lH r1;have b1:0≤U / 4194304000*4294967296+V / 4194304000:=by omega
 have b2:U / 4194304000*4294967296+V / 4194304000≤18446744073709551615:=by omega
 clear q1 r1 hV;have HU:=lH hU;have HT:=lH hT;clear hU hT;go_enter Tryz.func103,Tryz.ntmps103;go_wp2_with (go_at_call 118;refine(jbT _).mono ?_;rintro e w' ⟨rfl,rfl⟩)
 refine wp_loop_rounds 1 ?_;rw[rounds_succ];go_wp2;refine wp_loop_rounds 1 ?_;rw[rounds_succ];go_wp2;go_ret2
 exact⟨jbs Q1.out R1.out,0,rfl⟩
theorem jaF (h l:Int) (hh:0≤h) (hh':h≤999) (h0:0≤l) (h1:l≤18446744073709551615) (w:World) :
 Calls Tryz.prog 103 #[.int .u64 h,.int .u64 l,.int .u64 1000] w fun e w'=>e=.returned (.tuple #[.int .u64 (Ze h l),.int .u64 (Zz h l)])∧∃n,w'=w.drewN n:=by
 by_cases hz:h=0
 · subst hz;exact jaC l h0 h1 w
 · exact q5 h l (by omega) hh' h0 h1 w
def jcw (v x:Int) (w:World) (e:Ending) (w':World):Prop:=e=.returned (.tuple #[.int .i64 v,.int .i64 x])∧∃n,w'=w.drewN n
def qM (k:IntKind) (v r x:Int) (w:World) (e:Ending) (w':World):Prop:=e=.returned (.tuple #[.int .i64 v,.int k r,.int .i64 x])∧∃n,w'=w.drewN n
theorem div_mul (a p:Int) (ha:0≤a) (hp:0≤p) (h:j5 a p≤999) (w:World) :
 Calls Tryz.prog 103 #[.int .u64 (j5 a p),.int .u64 (zO a p),.int .u64 1000] w fun e w'=>e=.returned (.tuple #[.int .u64 (zr a p),.int .u64 (ZX a p)])∧∃n,w'=w.drewN n:=by
 rw[←Xz,←jbF];exact jaF _ _ (Jy ha hp) h (z7 a p).1 (z7 a p).2 w
theorem XF (a b:Int) (w:World) (h:a<0∨b<0):Calls Tryz.prog 84 #[.int .i64 a,.int .i64 b] w (qM .u64 0 0 1 w):=by
 by_cases h1:a<0
 · go_enter Tryz.func84,Tryz.ntmps84;go_wp2;go_ret3
   exact⟨rfl,0,rfl⟩
 · have h2:b<0:=by omega
   go_enter Tryz.func84,Tryz.ntmps84;go_wp2;go_ret3
   exact⟨rfl,0,rfl⟩
theorem Y1 (a b:Int) (w:World) (ha:0≤a) (hb:0≤b) (ha':a≤9223372036854775807) (hb':b≤9223372036854775807) (h:9223372036854775807<zr a b):Calls Tryz.prog 84 #[.int .i64 a,.int .i64 b] w (qM .u64 0 0 5 w):=by
 have g0:=Jy ha hb;have g1:=XI ha hb ha' hb';have g2:=(z7 a b).1;have g3:=(z7 a b).2;have q0:=ZI ha hb;have q1:=(ZD a b).1;have q2:=(ZD a b).2;have q3:zr a b≤18446744073709551615∨1000≤j5 a b:=by
  have e:=Xz a b;unfold Ze at e;omega
 by_cases hz:1000≤j5 a b
 · clear q3;go_enter Tryz.func84,Tryz.ntmps84;go_wp2_with ((go_at_call 102;refine(Zs _ _ ha hb ha' hb' _).mono ?_;rintro e w' ⟨rfl,rfl⟩))
   go_ret3
   exact⟨rfl,0,rfl⟩
 · have g5:j5 a b≤999:=by omega
   have q4:zr a b≤18446744073709551615:=by omega
   clear q3;go_enter Tryz.func84,Tryz.ntmps84;go_wp2_with (first | (go_at_call 102;refine(Zs _ _ ha hb ha' hb' _).mono ?_;rintro e w' ⟨rfl,rfl⟩) | (go_at_call 103;refine(div_mul _ _ ha hb g5 _).mono ?_;rintro e w' ⟨rfl,n,rfl⟩))
   go_ret3
   exact⟨rfl,_,rfl⟩
theorem X8 (a b:Int) (w:World) (ha:0≤a) (hb:0≤b) (ha':a≤9223372036854775807) (hb':b≤9223372036854775807) (h:zr a b≤9223372036854775807):Calls Tryz.prog 84 #[.int .i64 a,.int .i64 b] w (qM .u64 (zr a b) (ZX a b) 0 w):=by
 have g0:=Jy ha hb;have g1:=XI ha hb ha' hb';have g2:=(z7 a b).1;have g3:=(z7 a b).2;have q0:=ZI ha hb;have q1:=(ZD a b).1;have q2:=(ZD a b).2;have g5:j5 a b≤999:=by
  by_cases hz:1000≤j5 a b
  · have:=jcN hz;omega
  · omega
 go_enter Tryz.func84,Tryz.ntmps84;go_wp2_with (first | (go_at_call 102;refine(Zs _ _ ha hb ha' hb' _).mono ?_;rintro e w' ⟨rfl,rfl⟩) | (go_at_call 103;refine(div_mul _ _ ha hb g5 _).mono ?_;rintro e w' ⟨rfl,n,rfl⟩))
 go_ret3
 exact⟨rfl,_,rfl⟩
abbrev V:=List (ByteArray×Int)
def nm (l:V) (i:Nat):ByteArray:=(l.getD i (ByteArray.empty,0)).1
def qn (l:V) (i:Nat):Int:=(l.getD i (ByteArray.empty,0)).2
def jX (l:V):Prop:=∀i,i<l.length→(nm l i).size≤maxLen∧-9223372036854775808≤qn l i∧qn l i≤9223372036854775807
def jJ (w:World) (a:Option Addr) (len:Nat) (l:V):Prop :=
 l.length=len∧len≤maxLen∧jX l ∧
  (len=0∨∃b off,a=some ⟨b,off,none⟩∧b<w.heap.size ∧
    ∀i,i<len→w.cell? ⟨b,off+i*2,none⟩=some (.string (nm l i))∧w.cell? ⟨b,off+i*2+1,none⟩=some (.int .i64 (qn l i)))
theorem jJ.kept {w w':World} {a:Option Addr} {len:Nat} {l:V} (h:jJ w a len l) (k:Kept w w'):jJ w' a len l:=by
 obtain⟨h0,h1,h2,h3⟩:=h;refine⟨h0,h1,h2,h3.imp id ?_⟩;rintro ⟨b,off,ha,hb,hc⟩;exact⟨b,off,ha,Nat.lt_of_lt_of_le hb k.size,fun i hi =>
  ⟨(Below.cell k (p:=⟨b,off+i*2,none⟩) hb).trans (hc i hi).1,(Below.cell k (p:=⟨b,off+i*2+1,none⟩) hb).trans (hc i hi).2⟩⟩
theorem jJ.nil (w:World):jJ w none 0 []:=⟨rfl,by decide,fun i hi=>absurd hi (by simp),.inl rfl⟩
theorem drop_cons {l:V} {k:Nat} (h:k<l.length):l.drop k=(nm l k,qn l k)::l.drop (k+1):=by
 rw[List.drop_eq_getElem_cons h];have:l.getD k (ByteArray.empty,0)=l[k]:=by simp[List.getD,h]
 simp only[nm,qn,this]
theorem jJ.cells {w:World} {b off len:Nat} {l:V} {k:Nat} (h:jJ w (some ⟨b,off,none⟩) len l) (hk:k<len) :
 b<w.heap.size∧w.cell? ⟨b,off+k*2,none⟩=some (.string (nm l k))∧w.cell? ⟨b,off+k*2+1,none⟩=some (.int .i64 (qn l k)):=by
 obtain⟨_,_,_,h3⟩:=h;rcases h3 with h3 | ⟨b',off',e,hb,hc⟩
 · omega
 · injection e with e;injection e with e1 e2 e3;subst e1;subst e2;exact⟨hb,hc k hk⟩
theorem jJ.form {w:World} {a:Option Addr} {len:Nat} {l:V} (h:jJ w a len l):len=0∨∃b off,a=some ⟨b,off,none⟩:=by
 obtain⟨_,_,_,h3⟩:=h;exact h3.imp id fun ⟨b,off,e,_⟩=>⟨b,off,e⟩
def zM (l:V) (k:Nat):Option ByteArray:=if k=0 then none else some (nm l (k-1))
def zI (prev:Option ByteArray) (s:ByteArray):Bool:=match prev with | none=>false | some p=>leS s p
def jr:Option ByteArray→V→Int
 | _,[]=>0
 | prev,x::t=>if isName x.1=false then 3 else if x.2≤0 then 1 else if zI prev x.1=true then 13 else jr (some x.1) t
def jf (l:V):Int:=if 8<l.length then 4 else jr none l
theorem ZP {l:V} {k:Nat} (h:k=0) (s:ByteArray):zI (zM l k) s=false:=by unfold zM;rw[if_pos h];rfl
theorem ZS {l:V} {k:Nat} (h:¬k=0) (s:ByteArray):zI (zM l k) s=leS s (nm l (k-1)):=by unfold zM;rw[if_neg h];rfl
theorem jax (l:V) (k:Nat):zM l (k+1)=some (nm l k):=by unfold zM;rw[if_neg (by omega)];rfl
theorem XM {l:V} {k:Nat} {p:Option ByteArray} (h:k<l.length) (n1:isName (nm l k)=false):jr p (l.drop k)=3:=by
 rw[drop_cons h,jr,if_pos n1]
theorem qh {l:V} {k:Nat} {p:Option ByteArray} (h:k<l.length) (n1:isName (nm l k)=true) (n2:qn l k≤0):jr p (l.drop k)=1:=by
 rw[drop_cons h,jr,if_neg (by rw[n1];decide),if_pos n2]
theorem YS {l:V} {k:Nat} {p:Option ByteArray} (h:k<l.length) (n1:isName (nm l k)=true) (n2:0<qn l k) (n3:zI p (nm l k)=true):jr p (l.drop k)=13:=by
 rw[drop_cons h,jr,if_neg (by rw[n1];decide),if_neg (by omega),if_pos n3]
theorem Zb {l:V} {k:Nat} {p:Option ByteArray} (h:k<l.length) (n1:isName (nm l k)=true) (n2:0<qn l k) (n3:zI p (nm l k)=false):jr p (l.drop k)=jr (zM l (k+1)) (l.drop (k+1)):=by
 rw[drop_cons h,jr,if_neg (by rw[n1];decide),if_neg (by omega),if_neg (by rw[n3];decide),jax]
theorem qt {l:V} {k:Nat} {p:Option ByteArray} (h:¬k<l.length):jr p (l.drop k)=0:=by
 rw[List.drop_of_length_le (by omega),jr]
theorem Zl (a:Option Addr) (len cap:Nat) (l:V) (w:World) (hr:jJ w a len l) :
 Calls Tryz.prog 12 #[.slice a len cap] w fun e w'=>e=.returned (.int .i64 (jf l))∧Kept w w':=by
 have hl:=hr.1;have hm:=hr.2.1;unfold maxLen at hm;have hf:=hr.2.2.1;by_cases h8:len≤8
 · have HV:=lH (show jf l=jr none l by unfold jf;rw[if_neg (by omega)]);rcases hr.form with h0 | ⟨b,off,rfl⟩
   · subst h0;have HE:=lH (show jf l=0 by rw[HV.out];rw[List.eq_nil_of_length_eq_zero hl];rfl);clear hr hl hf;go_enter Tryz.func12,Tryz.ntmps12;go_wp2;refine wp_loop_rounds 1 ?_;rw[rounds_succ];go_wp2;go_ret;exact⟨ji HE.out.symm,Kept.refl _⟩
   · obtain⟨HF,HR,HL⟩:=lH3 hf hr hl;clear hf hr hl;go_enter Tryz.func12,Tryz.ntmps12;go_wp2;go_loopw [3] (fun i wr=>∃k:Nat,k≤len∧i=.int .i64 k∧jr (zM l k) (l.drop k)=jr none l∧Kept w wr) (fun i _=>len-(intOf i).toNat)
     case atStart=>exact⟨0,Nat.zero_le _,rfl,rfl,Kept.refl _⟩
     case round =>
      obtain⟨k,hk,rfl,hrest,hK⟩:=hrel;by_cases hlt:k<len
      · obtain⟨HK,HS,HT⟩:=lH3 hK (HV.out.trans hrest.symm) hrest;obtain⟨hb,c1,c2⟩:=(HR.out.kept hK).cells hlt;clear hK hrest;have hz:(nm l k).size≤maxLen:=(HF.out k (by rw[HL.out];exact hlt)).1;have HI:=lH (show k<l.length by rw[HL.out];exact hlt);by_cases n1:isName (nm l k)=true
        · have N1:=lH n1;by_cases n2:qn l k≤0
          · have N2:=lH n2;go_wp2_with (go_at_call 32;refine(zq _ _ hz).mono ?_;rintro e w' ⟨rfl,rfl⟩)
            go_ret;exact⟨ji (HS.out.trans (qh HI.out N1.out N2.out)).symm,HK.out⟩
          · have n2:0<qn l k:=by omega
            have N2:=lH n2;by_cases h0:k=0
            · have hd:decide (0<k)=false:=by subst h0;decide
              have HP:=lH (ZP (l:=l) h0 (nm l k));clear h0;go_wp2_with (go_at_call 32;refine(zq _ _ hz).mono ?_;rintro e w' ⟨rfl,rfl⟩)
              go_quiet (fail)
              go_wp2;go_roundw
              case rel=>exact⟨k+1,by omega,by go_num,(Zb HI.out N1.out N2.out HP.out).symm.trans HT.out,HK.out.trans (Kept.drewN _ _)⟩
              case measure=>simp[intOf];omega
            · have hd:decide (0<k)=true:=by simp;omega
              have g1:0≤(k:Int)-1:=by omega
              have g2:(k:Int)-1<(len:Int):=by omega
              have g3:((k:Int)-1).toNat=k-1:=by omega
              have HP:=lH (ZS (l:=l) h0 (nm l k));obtain⟨_,d1,d2⟩:=(HR.out.kept HK.out).cells (show k-1<len by omega);by_cases n3:leS (nm l k) (nm l (k-1))=true
              · have n3':(Op.bytesLess (nm l k).toList (nm l (k-1)).toList||(nm l k).toList==(nm l (k-1)).toList)=true:=n3;have N3:=lH n3;clear n3;go_wp2_with (go_at_call 32;refine(zq _ _ hz).mono ?_;rintro e w' ⟨rfl,rfl⟩)
                go_quiet (fail)
                go_wp2;go_ret;exact⟨ji (HS.out.trans (YS HI.out N1.out N2.out (HP.out.trans N3.out))).symm,HK.out.trans (Kept.drewN _ _)⟩
              · have n3:leS (nm l k) (nm l (k-1))=false:=by simpa using n3
                have n3':(Op.bytesLess (nm l k).toList (nm l (k-1)).toList||(nm l k).toList==(nm l (k-1)).toList)=false:=n3;have N3:=lH n3;clear n3;go_wp2_with (go_at_call 32;refine(zq _ _ hz).mono ?_;rintro e w' ⟨rfl,rfl⟩)
                go_quiet (fail)
                go_wp2;go_roundw
                case rel=>exact⟨k+1,by omega,by go_num,(Zb HI.out N1.out N2.out (HP.out.trans N3.out)).symm.trans HT.out,HK.out.trans (Kept.drewN _ _)⟩
                case measure=>simp[intOf];omega
        · have n1:isName (nm l k)=false:=by simpa using n1
          have N1:=lH n1;go_wp2_with (go_at_call 32;refine(zq _ _ hz).mono ?_;rintro e w' ⟨rfl,rfl⟩)
          go_ret;exact⟨ji (HS.out.trans (XM HI.out N1.out)).symm,HK.out⟩
      · obtain⟨HK,HS,HI⟩:=lH3 hK (HV.out.trans hrest.symm) (show ¬k<l.length by rw[HL.out];exact hlt);clear hK hrest;go_wp2;go_ret;exact⟨ji (HS.out.trans (qt HI.out)).symm,HK.out⟩
 · have HV:=lH (show jf l=4 by unfold jf;rw[if_pos (by omega)]);have h9:8<len:=by omega
   clear h8 hr hl hf;go_enter Tryz.func12,Tryz.ntmps12;go_wp2;go_ret;exact⟨ji HV.out.symm,Kept.refl _⟩
theorem qg (a:Option Addr) (len cap:Nat) (w:World) (h:len≤8) :
 Calls Tryz.prog 81 #[.slice a len cap] w fun e w'=>e=.returned (.tuple #[])∧w=w':=by
 go_enter Tryz.func81,Tryz.ntmps81;go_wp2;go_end0
 exact⟨rfl,rfl⟩
theorem jbm (a:Option Addr) (len cap:Nat) (w:World) (h:8<len) (hm:len≤9223372036854775807) :
 Calls Tryz.prog 81 #[.slice a len cap] w fun e w'=>e=.panicked [jG 4]∧w=w':=by
 go_enter Tryz.func81,Tryz.ntmps81;go_wp2;exact⟨rfl,rfl,rfl⟩
def Chk (l:V) (v:Value) (w:World) (e:Ending) (w':World):Prop :=
 (jf l=0→e=.returned v)∧(jf l≠0→e=.panicked [jG (jf l)])∧Kept w w'
theorem Chk.good {l:V} {v:Value} {w w':World} (h:jf l=0) (k:Kept w w'):Chk l v w (.returned v) w':=⟨fun _=>rfl,fun g=>absurd h g,k⟩
theorem Chk.bad {l:V} {v:Value} {w w':World} {c:Int} (h:jf l=c) (hc:c≠0) (k:Kept w w'):Chk l v w (.panicked [jG c]) w':=⟨fun g=>absurd (h.symm.trans g) hc,fun _=>by rw[h],k⟩
theorem zn (a:Option Addr) (len cap:Nat) (l:V) (w:World) (hr:jJ w a len l) :
 Calls Tryz.prog 56 #[.slice a len cap] w (Chk l (.slice a len cap) w):=by
 have hl:=hr.1;have hm:=hr.2.1;unfold maxLen at hm;have hm':len≤9223372036854775807:=by omega
 have hf:=hr.2.2.1;by_cases h8:len≤8
 · have HV:=lH (show jf l=jr none l by unfold jf;rw[if_neg (by omega)]);rcases hr.form with h0 | ⟨b,off,rfl⟩
   · subst h0;have HE:=lH (show jf l=0 by rw[HV.out];rw[List.eq_nil_of_length_eq_zero hl];rfl);clear hr hl hf;go_enter Tryz.func56,Tryz.ntmps56;go_wp2_with (go_at_call 81;refine(qg _ _ _ _ (by omega)).mono ?_;rintro e w' ⟨rfl,rfl⟩)
     refine wp_loop_rounds 1 ?_;rw[rounds_succ];go_wp2;go_ret;exact Chk.good HE.out (Kept.refl _)
   · obtain⟨HF,HR,HL⟩:=lH3 hf hr hl;clear hf hr hl;go_enter Tryz.func56,Tryz.ntmps56;go_wp2_with (go_at_call 81;refine(qg _ _ _ _ h8).mono ?_;rintro e w' ⟨rfl,rfl⟩)
     go_loopw [9] (fun i wr=>∃k:Nat,k≤len∧i=.int .i64 k∧jr (zM l k) (l.drop k)=jr none l∧Kept w wr) (fun i _=>len-(intOf i).toNat)
     case atStart=>exact⟨0,Nat.zero_le _,rfl,rfl,Kept.refl _⟩
     case round =>
      obtain⟨k,hk,rfl,hrest,hK⟩:=hrel;by_cases hlt:k<len
      · obtain⟨HK,HS,HT⟩:=lH3 hK (HV.out.trans hrest.symm) hrest;obtain⟨hb,c1,c2⟩:=(HR.out.kept hK).cells hlt;clear hK hrest;have hz:(nm l k).size≤maxLen:=(HF.out k (by rw[HL.out];exact hlt)).1;have HI:=lH (show k<l.length by rw[HL.out];exact hlt);by_cases n1:isName (nm l k)=true
        · have N1:=lH n1;by_cases n2:qn l k≤0
          · have N2:=lH n2;go_wp2_with (go_at_call 65;refine(z6 _ _ hz).mono ?_;rintro e w' ⟨rfl,rfl⟩)
            exact⟨rfl,Chk.bad (HS.out.trans (qh HI.out N1.out N2.out)) (by decide) (HK.out.trans (jb _ _))⟩
          · have n2:0<qn l k:=by omega
            have N2:=lH n2;by_cases h0:k=0
            · have hd:decide (0<k)=false:=by subst h0;decide
              have HP:=lH (ZP (l:=l) h0 (nm l k));clear h0;go_wp2_with (go_at_call 65;refine(z6 _ _ hz).mono ?_;rintro e w' ⟨rfl,rfl⟩)
              go_quiet (fail)
              go_wp2;go_roundw
              case rel=>exact⟨k+1,by omega,by go_num,(Zb HI.out N1.out N2.out HP.out).symm.trans HT.out,(HK.out.trans (zN _ _ _))⟩
              case measure=>simp[intOf];omega
            · have hd:decide (0<k)=true:=by simp;omega
              have g1:0≤(k:Int)-1:=by omega
              have g2:(k:Int)-1<(len:Int):=by omega
              have g3:((k:Int)-1).toNat=k-1:=by omega
              have HP:=lH (ZS (l:=l) h0 (nm l k));obtain⟨_,d1,d2⟩:=(HR.out.kept HK.out).cells (show k-1<len by omega);by_cases n3:leS (nm l k) (nm l (k-1))=true
              · have n3':(Op.bytesLess (nm l k).toList (nm l (k-1)).toList||(nm l k).toList==(nm l (k-1)).toList)=true:=n3;have N3:=lH n3;clear n3;go_wp2_with (go_at_call 65;refine(z6 _ _ hz).mono ?_;rintro e w' ⟨rfl,rfl⟩)
                go_quiet (fail)
                go_wp2;exact⟨rfl,Chk.bad (HS.out.trans (YS HI.out N1.out N2.out (HP.out.trans N3.out))) (by decide) (HK.out.trans (zN _ _ _))⟩
              · have n3:leS (nm l k) (nm l (k-1))=false:=by simpa using n3
                have n3':(Op.bytesLess (nm l k).toList (nm l (k-1)).toList||(nm l k).toList==(nm l (k-1)).toList)=false:=n3;have N3:=lH n3;clear n3;go_wp2_with (go_at_call 65;refine(z6 _ _ hz).mono ?_;rintro e w' ⟨rfl,rfl⟩)
                go_quiet (fail)
                go_wp2;go_roundw
                case rel=>exact⟨k+1,by omega,by go_num,(Zb HI.out N1.out N2.out (HP.out.trans N3.out)).symm.trans HT.out,(HK.out.trans (zN _ _ _))⟩
                case measure=>simp[intOf];omega
        · have n1:isName (nm l k)=false:=by simpa using n1
          have N1:=lH n1;go_wp2_with (go_at_call 65;refine(z6 _ _ hz).mono ?_;rintro e w' ⟨rfl,rfl⟩)
          exact⟨rfl,Chk.bad (HS.out.trans (XM HI.out N1.out)) (by decide) (HK.out.trans (jb _ _))⟩
      · obtain⟨HK,HS,HI⟩:=lH3 hK (HV.out.trans hrest.symm) (show ¬k<l.length by rw[HL.out];exact hlt);clear hK hrest;go_wp2;go_ret;exact Chk.good (HS.out.trans (qt HI.out)) HK.out
 · have HV:=lH (show jf l=4 by unfold jf;rw[if_pos (by omega)]);have h9:8<len:=by omega
   clear h8 hr hl hf hm;go_enter Tryz.func56,Tryz.ntmps56;go_wp2_with (go_at_call 81;refine(jbm _ _ _ _ h9 hm').mono ?_;rintro e w' ⟨rfl,rfl⟩)
   exact⟨rfl,Chk.bad HV.out (by decide) (Kept.refl _)⟩
def j9:V→ByteArray→Int
 | [],_=>0
 | x::t,n=>if eqS x.1 n=true then x.2 else j9 t n
theorem jbj {l:V} {k:Nat} {n:ByteArray} (h:k<l.length) (e:eqS (nm l k) n=true):j9 (l.drop k) n=qn l k:=by rw[drop_cons h,j9,if_pos e]
theorem jbk {l:V} {k:Nat} {n:ByteArray} (h:k<l.length) (e:eqS (nm l k) n=false):j9 (l.drop k) n=j9 (l.drop (k+1)) n:=by rw[drop_cons h,j9,if_neg (by rw[e];decide)]
theorem jcj {l:V} {k:Nat} {n:ByteArray} (h:¬k<l.length):j9 (l.drop k) n=0:=by rw[List.drop_of_length_le (by omega),j9]
theorem jcc (a:Option Addr) (len cap:Nat) (l:V) (n:ByteArray) (w:World) (hr:jJ w a len l) :
 Calls Tryz.prog 41 #[.slice a len cap,.string n] w fun e w'=>e=.returned (.int .i64 (j9 l n))∧Kept w w':=by
 have hl:=hr.1;have hm:=hr.2.1;unfold maxLen at hm;rcases hr.form with h0 | ⟨b,off,rfl⟩
 · subst h0;have HE:=lH (show j9 l n=0 by rw[List.eq_nil_of_length_eq_zero hl];rfl);clear hr hl;go_enter Tryz.func41,Tryz.ntmps41;go_wp2;refine wp_loop_rounds 1 ?_;rw[rounds_succ];go_wp2;go_ret;exact⟨ji HE.out.symm,Kept.refl _⟩
 · have HR:=lH hr;have HL:=lH hl;clear hr hl;go_enter Tryz.func41,Tryz.ntmps41;go_wp2;go_loopw [9] (fun i wr=>∃k:Nat,k≤len∧i=.int .i64 k∧j9 (l.drop k) n=j9 l n∧Kept w wr) (fun i _=>len-(intOf i).toNat)
   case atStart=>exact⟨0,Nat.zero_le _,rfl,rfl,Kept.refl _⟩
   case round =>
    obtain⟨k,hk,rfl,hrest,hK⟩:=hrel;have HK:=lH hK;have HS:=lH hrest;by_cases hlt:k<len
    · obtain⟨hb,c1,c2⟩:=(HR.out.kept hK).cells hlt;clear hK hrest;have HI:=lH (show k<l.length by rw[HL.out];exact hlt);by_cases e:eqS (nm l k) n=true
      · have E:=lH e;have e':((nm l k).toList==n.toList)=true:=e;clear e;go_wp2;go_ret;exact⟨ji (HS.out.symm.trans (jbj HI.out E.out)).symm,HK.out.trans (jb _ _)⟩
      · have e:eqS (nm l k) n=false:=by simpa using e
        have E:=lH e;have e':((nm l k).toList==n.toList)=false:=e;clear e;go_wp2;go_roundw
        case rel=>exact⟨k+1,by omega,by go_num,(jbk HI.out E.out).symm.trans HS.out,HK.out.trans (jb _ _)⟩
        case measure=>simp[intOf];omega
    · have HI:=lH (show ¬k<l.length by rw[HL.out];exact hlt);clear hK hrest;go_wp2;go_ret;exact⟨ji (HS.out.symm.trans (jcj HI.out)).symm,HK.out⟩
def z8:V→Bool
 | []=>true
 | x::t=>decide (x.1.size≤50)&&z8 t
def Za (l:V):Bool:=decide (l.length≤20)&&z8 l
def jB:V→V→Bool
 | [],[]=>true
 | x::s,y::t=>(eqS x.1 y.1&&decide (x.2=y.2))&&jB s t
 | _,_=>false
theorem same_length:∀{l l':V},l.length≠l'.length→jB l l'=false
 | [],[],h=>absurd rfl h
 | [],_::_,_=>rfl
 | _::_,[],_=>rfl
 | x::s,y::t,h=>by rw[jB,same_length (l:=s) (l':=t) (fun e=>h (by simp[e])),Bool.and_false]
def cellsOf:V→List Value
 | []=>[]
 | x::t=>.string x.1::.int .i64 x.2::cellsOf t
theorem zX:∀l:V,(cellsOf l).length=l.length*2
 | []=>rfl
 | x::t=>by simp only[cellsOf,List.length_cons,zX t];omega
theorem zg:∀l m:V,cellsOf (l++m)=cellsOf l++cellsOf m
 | [],_=>rfl
 | x::t,m=>by simp only[List.cons_append,cellsOf,zg t m]
theorem jbZ (x:ByteArray×Int) (t:V):nm (x::t) 0=x.1:=rfl
theorem qc (x:ByteArray×Int) (t:V) (i:Nat):nm (x::t) (i+1)=nm t i:=rfl
theorem jci (x:ByteArray×Int) (t:V):qn (x::t) 0=x.2:=rfl
theorem qe (x:ByteArray×Int) (t:V) (i:Nat):qn (x::t) (i+1)=qn t i:=rfl
theorem Jr:∀(l:V) (i:Nat),i<l.length→(cellsOf l)[i*2]?=some (.string (nm l i))∧(cellsOf l)[i*2+1]?=some (.int .i64 (qn l i))
 | [],i,h=>absurd h (by simp)
 | x::t,0,_=>⟨rfl,rfl⟩
 | x::t,i+1,h=>by
  have:=Jr t i (by simpa using h);rw[qc,qe,show (i+1)*2=i*2+1+1 from by omega];exact this
theorem zo:∀(l:V) (u:Value),u ∈ cellsOf l→u.oneCell'=true
 | x::t,u,h=>by
  simp only[cellsOf,List.mem_cons] at h;rcases h with rfl | rfl | h
  · rfl
  · rfl
  · exact zo t u h
theorem jX.cons {x:ByteArray×Int} {t:V}:jX (x::t)↔(x.1.size≤maxLen∧-9223372036854775808≤x.2∧x.2≤9223372036854775807)∧jX t:=by
 constructor
 · intro h;exact⟨h 0 (by simp),fun i hi=>h (i+1) (by simpa using hi)⟩
 · rintro ⟨h0,h⟩ i hi
   cases i with
   | zero=>exact h0
   | succ i=>exact h i (by simpa using hi)
theorem jX.nil:jX []:=fun i hi=>absurd hi (by simp)
theorem jX.snoc:∀{l:V} {s:ByteArray} {n:Int},jX l→s.size≤maxLen→-9223372036854775808≤n→n≤9223372036854775807→jX (l++[(s,n)])
 | [],s,n,_,h1,h2,h3=>jX.cons.2 ⟨⟨h1,h2,h3⟩,jX.nil⟩
 | x::t,s,n,h,h1,h2,h3=>by
  rw[jX.cons] at h;exact jX.cons.2 ⟨h.1,h.2.snoc h1 h2 h3⟩
def jt (e:TypeId) (w:World) (base:Nat) (v:Value) (l:V):Prop:=w.ownsRow base e 2 v l.length (cellsOf l)∧jX l
theorem jt.nil (e:TypeId) (w:World) (base:Nat):jt e w base (.slice none 0 0) []:=⟨World.ownsRow_nil w base e 2,jX.nil⟩
theorem jt.at_ {e:TypeId} {w:World} {base:Nat} {v:Value} {l:V} (h:jt e w base v l) :
 ∃a cap,v=.slice a l.length cap∧l.length≤cap∧cap≤maxLen∧jJ w a l.length l:=by
 obtain⟨h,hf⟩:=h;have h':=h;obtain⟨_,h1⟩:=h;rcases h1 with ⟨rfl,h0⟩ | ⟨g,cap,cur,rfl,hbg,hg,hn,hm,hs,ht⟩
 · have:l=[]:=List.eq_nil_of_length_eq_zero h0;subst this;exact⟨none,0,rfl,Nat.le_refl _,by decide,jJ.nil w⟩
 · refine⟨_,cap,rfl,hn,hm,rfl,Nat.le_trans hn hm,hf,.inr ⟨g,0,rfl,?_,fun i hi=>?_⟩⟩
   · rcases Nat.lt_or_ge g w.heap.size with hlt | hge
     · exact hlt
     · rw[Array.getElem?_eq_none hge] at hg;cases hg
   · have c:=h'.cells (g:=g) rfl;have d:=Jr l i hi;have c1:=c _ _ d.1;have c2:=c _ _ d.2;constructor
     · rw[←c1];congr 1;unfold Addr.add;split<;>simp_all
     · rw[←c2];congr 1
theorem jt.kept {e:TypeId} {w w':World} {base:Nat} {v:Value} {l:V} (h:jt e w base v l) (k:Kept w w'):jt e w' base v l:=by
 obtain⟨⟨h0,h1⟩,hf⟩:=h;refine⟨⟨h0,h1.imp id ?_⟩,hf⟩;rintro ⟨g,cap,cur,rfl,hbg,hg,hn,hm,hs,ht⟩;refine⟨g,cap,cur,rfl,hbg,?_,hn,hm,hs,ht⟩;have hlt:g<w.heap.size:=by
  rcases Nat.lt_or_ge g w.heap.size with hlt | hge
  · exact hlt
  · rw[Array.getElem?_eq_none hge] at hg;cases hg
 exact(k.block g hlt).trans hg
theorem qp:(Tryz.prog.info? 63).map (fun i=>(i.zero,i.size,i.bytes))=some (some (.agg #[.string ByteArray.empty,.int .i64 0]),2,24):=by kernel_rfl
def jcB (base:Nat) (l:V) (w:World) (e:Ending) (w':World):Prop:=∃v,e=.returned v∧jt 63 w' base v l∧Below base w w'
theorem Z7 (w:World) (s:ByteArray) (n:Int) (T:TypeId):∀j u,[Value.string s,.int .i64 n][j]?=some u →
 (w.alloc (.cells #[.string s,.int .i64 n] T)).cell? ((⟨w.heap.size,0,none⟩:Addr).add j)=some u :=
 World.news_of_block (cs:=#[.string s,.int .i64 n]) (t:=T) (fr:=(0,0)) (w.alloc_heap_new _)
theorem ja1 (v:Value) (s:ByteArray) (w:World) :
 Calls Tryz.prog 82 #[v,.string s,.int .i64 0] w fun e w'=>e=.returned v∧w=w':=by
 go_enter Tryz.func82,Tryz.ntmps82;go_wp2;go_ret;exact⟨rfl,rfl⟩
theorem jbh (v:Value) (s:ByteArray) (n:Int) (base:Nat) (l:V) (w:World) (h:jt 63 w base v l) (hn:n≠0) (hs:s.size≤maxLen) (h1:-9223372036854775808≤n) (h2:n≤9223372036854775807)
 (hl:l.length≤1000000) (hb:base≤w.heap.size) :
 Calls Tryz.prog 82 #[v,.string s,.int .i64 n] w (jcB base (l++[(s,n)]) w):=by
 have h3:(n==0)=false:=by simpa using hn
 clear hn;obtain⟨i0,hi,hz0,hz1,hz2⟩:=info_parts qp;obtain⟨hown,hf⟩:=h;have HF:=lH (hf.snoc hs h1 h2);clear hf hs;go_enter Tryz.func82,Tryz.ntmps82;go_wp2_with (at_builtin;refine wpList_append_lies _ rfl (.tmp 10) (.tmp 14) _ rfl base 63 i0 _ 2 24 Tryz.underlying23 hi hz0 hz1 hz2 rfl (by decide) v l.length (cellsOf l) rfl (hown.alloc _) ⟨w.heap.size,0,none⟩ 1 1 [.string s,.int .i64 n] rfl rfl (Z7 _ _ _ _) (zo [(s,n)]) (by decide) (by unfold maxLen;omega) (by omega) (by rw[World.size_alloc];omega) (w.heap.size+1) (World.size_alloc _ _) ?_;intro g cap w1 hown1 hgrow hg hlt;refine Hid.out ?_)
 refine lH ?_;go_wp2;go_ret;refine⟨_,rfl,⟨?_,HF.out⟩,((Below.refl _ w).alloc hb _).grown hgrow (by rw[World.size_alloc];omega) (fun k hk=>?_)⟩
 · rw[List.length_append,zg];exact hown1
 · exact(hown.lt k hk).1
def Reads (w:World) (v:Value) (l:V):Prop:=∃a cap,v=.slice a l.length cap∧l.length≤cap∧cap≤maxLen∧jJ w a l.length l
theorem Reads.kept {w w':World} {v:Value} {l:V} (h:Reads w v l) (k:Kept w w'):Reads w' v l:=by
 obtain⟨a,cap,e,h1,h2,h3⟩:=h;exact⟨a,cap,e,h1,h2,h3.kept k⟩
theorem Xr (n:Int) (w:World):Calls Tryz.prog 83 #[.int .i64 n,.int .i64 0] w fun e w'=>e=.returned (.int .i64 n)∧w=w':=by
 go_enter Tryz.func83,Tryz.ntmps83;go_wp2;go_ret;exact⟨rfl,rfl⟩
theorem jaH (n x:Int) (w:World) (h:x≠0):Calls Tryz.prog 83 #[.int .i64 n,.int .i64 x] w fun e w'=>e=.panicked [jG x]∧w=w':=by
 have h3:(x != 0)=true:=by simpa using h
 clear h;go_enter Tryz.func83,Tryz.ntmps83;go_wp2;exact⟨rfl,rfl,rfl⟩
theorem jJ.first {w:World} {b off len:Nat} {x:ByteArray×Int} {t:V} (h:jJ w (some ⟨b,off,none⟩) len (x::t)) :
 b<w.heap.size∧w.cell? ⟨b,off,none⟩=some (.string x.1)∧w.cell? ⟨b,off+1,none⟩=some (.int .i64 x.2):=by
 have hl:0<len:=by have:=h.1;simp only[List.length_cons] at this;omega
 have:=h.cells hl;simpa [jbZ,jci] using this
theorem jJ.tail {w:World} {b off len:Nat} {x:ByteArray×Int} {t:V} (h:jJ w (some ⟨b,off,none⟩) len (x::t)):jJ w (some ⟨b,off+2,none⟩) (len-1) t:=by
 have hl:=h.1;simp only[List.length_cons] at hl;refine⟨by omega,by have:=h.2.1;omega,(jX.cons.1 h.2.2.1).2,?_⟩;by_cases h0:len-1=0
 · exact .inl h0
 · refine .inr ⟨b,off+2,rfl,(h.cells (k:=0) (by omega)).1,fun i hi=>?_⟩;have:=(h.cells (k:=i+1) (by omega)).2;rw[qc,qe,show off+(i+1)*2=off+2+i*2 from by omega] at this;exact this
def jE (x n:Int):Int×Int:=if n<0 then (0,1) else if zr x n≤9223372036854775807 then (zr x n,0) else (0,5)
def plusV (acc:V) (s:ByteArray) (n:Int):V:=if n=0 then acc else acc++[(s,n)]
def Pos (l:V):Prop:=∀x ∈ l,0≤x.2∧x.2≤9223372036854775807∧x.1.size≤maxLen
theorem jaL {l:V} (h:jf l=0) (hf:jX l):Pos l:=by
 have h2:jr none l=0:=by
  unfold jf at h;split at h
  · cases h
  · exact h
 have key:∀(l:V) (p:Option ByteArray),jr p l=0→jX l→Pos l:=by
  intro l
  induction l with
  | nil=>intro _ _ _ x hx;cases hx
  | cons x t ih =>
   intro p hc hf;rw[jX.cons] at hf;unfold jr at hc;split at hc
   · cases hc
   · split at hc
     · cases hc
     · split at hc
       · cases hc
       · intro y hy;rcases List.mem_cons.1 hy with rfl | hy
         · exact⟨by omega,hf.1.2.2,hf.1.1⟩
         · exact ih _ hc hf.2 y hy
 exact key l none h2 hf
theorem Zt {l:V} (h:jf l=0):l.length≤8:=by
 unfold jf at h;split at h
 · cases h
 · omega
def jM (r:Int×V) (base:Nat) (w:World) (e:Ending) (w':World):Prop :=
 (r.1=0→∃v,e=.returned v∧jt 63 w' base v r.2)∧(r.1≠0→e=.panicked [jG r.1])∧Below base w w'
theorem jM.good {r:Int×V} {base:Nat} {w w':World} {v:Value} (h:r.1=0) (ho:jt 63 w' base v r.2) (hb:Below base w w'):jM r base w (.returned v) w':=⟨fun _=>⟨v,rfl,ho⟩,fun g=>absurd h g,hb⟩
theorem jM.bad {r:Int×V} {base:Nat} {w w':World} {c:Int} (h:r.1=c) (hc:c≠0) (hb:Below base w w'):jM r base w (.panicked [jG c]) w':=⟨fun g=>absurd (h.symm.trans g) hc,fun _=>by rw[h],hb⟩
theorem zF (B:Nat) (q:Nat) (x y:Int) (w:World) (hq:w.cell? ⟨q,0,none⟩=some (.int .i64 y)) (hzq:w.frozen? ⟨q,0,none⟩=false) (hBq:B≤q) :
 CallsD Tryz.prog 80 #[.pointer (some ⟨q,0,none⟩)] (.panicking [jG x]) w fun e u' w' =>
  e=.returned (.tuple #[])∧u'=.panicking [{ jG x with recovered:=true }]∧w'.cell? ⟨q,0,none⟩=some (.int .i64 x)∧Below B w w':=by
 have hta:∀W,(Instr.typeAssert (.iface 38 (.int .i64 x)) 20 38 false).run Tryz.prog W=.ok (.int .i64 x) W:=fun _=>by kernel_rfl
 refine callsD_of_wpS Tryz.func80 rfl fun c₀ cs hu=>?_;apply wpS_seq;apply wpS_region;simp[wpOpsS,go_sem,recoverD,hu,Tryz.ntmps80,Exit.thenS];apply wpS_seq;apply wpS_region;simp[wpOpsS,go_sem,recoverD,Exit.thenS];refine wpS_cond (t:=true) (by simp[Act.eval,Array.replicate]) ?_;simp only[if_true];refine wpS_of_wp ?_;simp[Array.replicate];go_wp2;simp[bodyPostS,results,Tryz.results80];exact⟨World.cell?_setCell_same' _ _ _ (by rw[hq];rfl),(Below.refl B w).setCell (p:=⟨q,0,none⟩) hBq _⟩
theorem JH (q:Addr) (w:World) :
 CallsD Tryz.prog 80 #[.pointer (some q)] .returning w fun e u' w'=>e=.returned (.tuple #[])∧u'=.returning∧w'=w:=by
 refine callsD_of_wpS Tryz.func80 rfl fun c₀ cs hu=>?_;apply wpS_seq;apply wpS_region;simp[wpOpsS,go_sem,recoverD,hu,Tryz.ntmps80,Exit.thenS];apply wpS_seq;apply wpS_region;simp[wpOpsS,go_sem,recoverD,hu,Exit.thenS];refine wpS_cond (t:=false) (by simp[Act.eval,Array.replicate]) ?_;simp only[Bool.false_eq_true,if_false];refine wpS_of_wp (wp_skip ?_)
 cases c₀
 simp_all [bodyPostS,results,Tryz.results80]
theorem jt.base_le {e:TypeId} {w:World} {B B':Nat} {v:Value} {l:V} (h:jt e w B' v l) (hb:B≤B'):jt e w B v l:=by
 obtain⟨⟨h0,h1⟩,hf⟩:=h;refine⟨⟨h0,h1.imp id ?_⟩,hf⟩;rintro ⟨g,cap,cur,rfl,hbg,rest⟩;exact⟨g,cap,cur,rfl,Nat.le_trans hb hbg,rest⟩
theorem jt.setCell_below {e:TypeId} {w:World} {B:Nat} {v:Value} {l:V} (h:jt e w B v l) {a:Addr} (ha:a.block<B) (u:Value):jt e (w.setCell a u) B v l :=
 ⟨ownsRow_setCell_below h.1 ha u,h.2⟩
def JJ (r:Int×V) (w:World) (e:Ending) (w':World):Prop :=
 ∃v,e=.returned (.tuple #[v,.int .i64 r.1])∧jt 63 w' w.heap.size v r.2∧Kept w w'
def j6 (f:Int→Int→Int×Int) (n:Int):V→V→Int×V
 | [],acc=>(0,acc)
 | x::t,acc=>if (f x.2 n).2≠0 then ((f x.2 n).2,[]) else j6 f n t (plusV acc x.1 (f x.2 n).1)
def jZ (f:Int→Int→Int×Int) (n:Int) (l:V):Int×V:=if jf l≠0 then (jf l,[]) else j6 f n l []
theorem Zi (f:Int→Int→Int×Int) (n:Int):∀(l acc:V),(j6 f n l acc).1≠0→(j6 f n l acc).2=[]
 | [],acc=>fun h=>absurd rfl h
 | x::t,acc=>by
  unfold j6;split
  · exact fun _=>rfl
  · exact Zi f n t _
theorem jbE {f:Int→Int→Int×Int} {n:Int} {l acc:V} {k:Nat} (h:¬k<l.length):j6 f n (l.drop k) acc=(0,acc):=by
 rw[List.drop_of_length_le (by omega)];rfl
theorem jbi {f:Int→Int→Int×Int} {n:Int} {l acc:V} {k:Nat} (h:k<l.length) (hx:(f (qn l k) n).2≠0):j6 f n (l.drop k) acc=((f (qn l k) n).2,[]):=by
 rw[drop_cons h,j6,if_pos hx]
theorem jao {f:Int→Int→Int×Int} {n:Int} {l acc:V} {k:Nat} (h:k<l.length) (hx:(f (qn l k) n).2=0):j6 f n (l.drop k) acc=j6 f n (l.drop (k+1)) (plusV acc (nm l k) (f (qn l k) n).1):=by
 rw[drop_cons h,j6,if_neg (by rw[hx];decide)]
theorem jan {l:V} {k:Nat} (h:k<l.length):(nm l k,qn l k) ∈ l:=by
 have:l.getD k (ByteArray.empty,0)=l[k]:=by simp[List.getD,h]
 have e:(nm l k,qn l k)=l[k]:=by simp only[nm,qn,this]
 rw[e];exact List.getElem_mem h
theorem jbG {x n:Int} (h:0≤x) (h':x≤9223372036854775807):0≤(jE x n).1∧(jE x n).1≤9223372036854775807:=by
 unfold jE;split
 · decide
 · split
   · have:=JK h (show 0≤n by omega);exact⟨by unfold zr;dsimp only;omega,by assumption⟩
   · decide
theorem jca (x n:Int) (w:World) (h0:0≤x) (h1:x≤9223372036854775807) (h2:-9223372036854775808≤n) (h3:n≤9223372036854775807) :
 Calls Tryz.prog 60 #[.int .i64 x,.int .i64 n] w (jcw (jE x n).1 (jE x n).2 w):=by
 by_cases g:n<0
 · have e:jE x n=(0,1):=by unfold jE;rw[if_pos g]
   rw[e];go_enter Tryz.func60,Tryz.ntmps60;go_wp2_with fail
   refine(XF x n _ (.inr g)).mono ?_;rintro e w' ⟨rfl,k,rfl⟩;go_wp2;go_ret2
   exact⟨rfl,_,rfl⟩
 · by_cases h:zr x n≤9223372036854775807
   · have e:jE x n=(zr x n,0):=by unfold jE;rw[if_neg g,if_pos h]
     rw[e];go_enter Tryz.func60,Tryz.ntmps60;go_wp2_with fail
     refine(X8 x n _ h0 (by omega) h1 h3 h).mono ?_;rintro e w' ⟨rfl,k,rfl⟩;go_wp2;go_ret2
     exact⟨rfl,_,rfl⟩
   · have e:jE x n=(0,5):=by unfold jE;rw[if_neg g,if_neg h]
     rw[e];go_enter Tryz.func60,Tryz.ntmps60;go_wp2_with fail
     refine(Y1 x n _ h0 (by omega) h1 h3 (by omega)).mono ?_;rintro e w' ⟨rfl,k,rfl⟩;go_wp2;go_ret2
     exact⟨rfl,_,rfl⟩
theorem jaj (a:Option Addr) (len cap:Nat) (l:V) (by_:Int) (w:World) (hr:jJ w a len l) (hb0:-9223372036854775808≤by_) (hb1:by_≤9223372036854775807) :
 Calls Tryz.prog 59 #[.slice a len cap,.int .i64 by_,.func (.func 60) #[] #[]] w (jM (jZ jE by_ l) w.heap.size w):=by
 by_cases h1:jf l=0
 · have HL:=lH hr.1;have P1:=lH (jaL h1 hr.2.2.1);have n8:len≤8:=by have:=Zt h1;rw[hr.1] at this;exact this
   obtain⟨HM,H1,HA⟩:=lH3 (show jZ jE by_ l=j6 jE by_ l [] by unfold jZ;rw[if_neg (by rw[h1];decide)]) h1 hr;rcases hr.form with h0 | ⟨b,off,rfl⟩
   · subst h0;have HE:=lH (show jZ jE by_ l=(0,[]) by rw[HM.out,List.eq_nil_of_length_eq_zero HL.out];rfl);clear h1 hr;go_enter Tryz.func59,Tryz.ntmps59;go_wp2_with fail
     refine(zn _ _ _ l _ HA.out).mono ?_;rintro e1 w1 ⟨g1,_,k1⟩;obtain rfl:=g1 H1.out;have K1:=lH k1;clear g1 k1;go_wp2;refine wp_loop_rounds 1 ?_;rw[rounds_succ];go_wp2;go_ret;exact jM.good (by rw[HE.out]) (by rw[HE.out];exact jt.nil _ _ _) K1.out
   · clear h1 hr;go_enter Tryz.func59,Tryz.ntmps59;go_wp2_with fail
     refine(zn _ _ _ l _ HA.out).mono ?_;rintro e1 w1 ⟨g1,_,k1⟩;obtain rfl:=g1 H1.out;have K1:=lH k1;clear g1 k1;go_wp2
     go_loopw [7,13] (fun v i wr=>∃(k:Nat) (acc:V),k≤len∧i=.int .i64 k∧j6 jE by_ (l.drop k) acc=j6 jE by_ l []∧jt 63 wr w.heap.size v acc∧Below w.heap.size w wr∧acc.length≤k)
      (fun _ i _=>len-(intOf i).toNat)
     case atStart=>exact⟨0,[],Nat.zero_le _,rfl,rfl,jt.nil _ _ _,K1.out,Nat.le_refl _⟩
     case round =>
      obtain⟨k,acc,hk,rfl,hres,ho,hB,hacc⟩:=hrel;obtain⟨HQ,HO,Vt⟩:=lH3 hres ho hB;by_cases hlt:k<len
      · obtain⟨hb,c1,c2⟩:=(HA.out.kept hB).cells hlt;clear hres ho hB;have HI:=lH (show k<l.length by rw[HL.out];exact hlt);have HP:=lH (P1.out _ (jan HI.out));obtain⟨r1,r2,hr⟩:∃r1 r2,jE (qn l k) by_=(r1,r2):=⟨_,_,rfl⟩
        have QF:=lH (show ∀W,Calls Tryz.prog 60 #[.int .i64 (qn l k),.int .i64 by_] W (jcw r1 r2 W) from fun W=>by
         have:=jca _ _ W HP.out.1 HP.out.2.1 hb0 hb1;rw[hr] at this;exact this)
        have VM:=lH hr;have RB:=lH (show 0≤r1∧r1≤9223372036854775807 by have:=jbG (n:=by_) HP.out.1 HP.out.2.1;rw[hr] at this;exact this);clear hr;have Ur:=lH (show ∀n,Below w.heap.size w ((wr.alloc (.cells #[.string (nm l k),.int .i64 (qn l k)] 63)).drewN n) from fun n=>below_drewN (Vt.out.alloc Vt.out.size _) n);have TO:=lH (fun (n:Nat)=>HO.out.kept ((jb wr (.cells #[.string (nm l k),.int .i64 (qn l k)] 63)).trans (Kept.drewN _ n)));by_cases hx:r2=0
        · subst hx;have HN:=lH (jao (f:=jE) (n:=by_) (acc:=acc) HI.out (by rw[VM.out]));by_cases hy:r1=0
          · subst hy;go_wp2;go_region_with (first | (go_at_call 60;refine(QF.out _).mono ?_;rintro e6 w6 ⟨rfl,nq,rfl⟩) | (go_at_call 83;refine(Xr _ _).mono ?_;rintro e7 w7 ⟨rfl,rfl⟩) | (go_at_call 82;refine(ja1 _ _ _).mono ?_;rintro e8 w8 ⟨rfl,rfl⟩))
            all_goals
             go_wp2;go_roundw
             case rel=>exact⟨k+1,acc,by omega,by go_num,by have:=HN.out;rw[VM.out] at this;exact this.symm.trans HQ.out,TO.out _,Ur.out _,by omega⟩
             case measure=>simp[intOf];omega
          · have HY:=lH hy;go_wp2;go_region_with (first | (go_at_call 60;refine(QF.out _).mono ?_;rintro e6 w6 ⟨rfl,nq,rfl⟩) | (go_at_call 83;refine(Xr _ _).mono ?_;rintro e7 w7 ⟨rfl,rfl⟩) | (go_at_call 82;refine(jbh _ _ r1 w.heap.size acc _ (TO.out _) HY.out HP.out.2.2 (by have:=RB.out;omega) (by have:=RB.out;omega) (by omega) (Ur.out _).size).mono ?_;rintro e8 w8 ⟨v8,rfl,o8,b8⟩;have O8:=lH o8;have B8:=lH b8;clear o8 b8))
            all_goals
             go_wp2;go_roundw
             case rel=>exact⟨k+1,_,by omega,by go_num,by have:=HN.out;rw[VM.out] at this;refine Eq.trans ?_ (this.symm.trans HQ.out);dsimp only;unfold plusV;rw[if_neg HY.out],O8.out,(Ur.out _).trans B8.out,by rw[List.length_append];simp only[List.length_cons,List.length_nil];omega⟩
             case measure=>simp[intOf];omega
        · have HX:=lH hx;have HE:=lH (show jZ jE by_ l=(r2,[]) by rw[HM.out,←HQ.out,jbi HI.out (by rw[VM.out];exact hx),VM.out]);go_wp2;have f1:((wr.alloc (.cells #[.string (nm l k),.int .i64 (qn l k)] 63)).drew).cell? ⟨wr.heap.size,0,none⟩=some (.string (nm l k)):=by go_simp
          have f2:((wr.alloc (.cells #[.string (nm l k),.int .i64 (qn l k)] 63)).drew).cell? ⟨wr.heap.size,1,none⟩=some (.int .i64 (qn l k)):=by go_simp
          refine wp_region_held_drew (S:=fun W=>W.cell? ⟨wr.heap.size,0,none⟩=some (.string (nm l k))∧W.cell? ⟨wr.heap.size,1,none⟩=some (.int .i64 (qn l k))∧Below w.heap.size w W) (by kernel_rfl) ⟨f1,f2,Ur.out 1⟩ (fun hHeld=>?_);refine tR 0 rfl (by kernel_rfl) (fun _ _ _=>id) (Or.inl ⟨by rfl,by rintro W ⟨s1,s2,_⟩;go_simp<;>with_reducible rfl⟩) ‹_› ?_;try simp only[nA,nB,nC,nD,nE]
          refine tR 1 rfl (by kernel_rfl) (fun _ _ _=>id) (Or.inl ⟨by rfl,by rintro W ⟨s1,s2,_⟩;go_simp<;>with_reducible rfl⟩) ‹_› ?_;try simp only[nA,nB,nC,nD,nE]
          refine tR 2 rfl (by kernel_rfl) (fun _ _ _=>id) (Or.inl ⟨by rfl,by rintro W ⟨s1,s2,_⟩;go_simp<;>with_reducible rfl⟩) ‹_› ?_;try simp only[nA,nB,nC,nD,nE]
          refine tR 3 rfl (by kernel_rfl) (fun _ _ _=>id) (Or.inl ⟨by rfl,by rintro W ⟨s1,s2,_⟩;go_simp<;>with_reducible rfl⟩) ‹_› ?_;try simp only[nA,nB,nC,nD,nE]
          refine tR 4 rfl (by kernel_rfl) (fun _ _ _=>id) (Or.inl ⟨by rfl,by rintro W ⟨s1,s2,_⟩;go_simp<;>with_reducible rfl⟩) ‹_› ?_;try simp only[nA,nB,nC,nD,nE]
          refine tR 5 rfl (by kernel_rfl) (fun _ _ _=>id) (Or.inl ⟨by rfl,by rintro W ⟨s1,s2,_⟩;go_simp<;>with_reducible rfl⟩) ‹_› ?_;try simp only[nA,nB,nC,nD,nE]
          refine tR 6 rfl (by kernel_rfl) (fun _ _ _=>id) (Or.inl ⟨by rfl,by rintro W ⟨s1,s2,_⟩;go_simp<;>with_reducible rfl⟩) ‹_› ?_;try simp only[nA,nB,nC,nD,nE]
          refine wpAnyH_ready  (rs:=[7]) (by kernel_rfl) (by simp) (AllReadyH.cons rfl (fun K hK=>?_) AllReadyH.nil);go_simp;refine(QF.out _).mono ?_;rintro e6 w6 ⟨rfl,nq,rfl⟩;refine hK.out _ _ ⟨f1,f2,below_drewN (Ur.out 1) nq⟩ (fun _=>?_);clear hK K;try simp only[nA,nB,nC,nD,nE]
          refine tR 8 rfl (by kernel_rfl) (fun _ _ _=>id) (Or.inl ⟨by rfl,by rintro W ⟨s1,s2,_⟩;go_simp<;>with_reducible rfl⟩) ‹_› ?_;try simp only[nA,nB,nC,nD,nE]
          refine tR 9 rfl (by kernel_rfl) (fun _ _ _=>id) (Or.inl ⟨by rfl,by rintro W ⟨s1,s2,_⟩;go_simp<;>with_reducible rfl⟩) ‹_› ?_;try simp only[nA,nB,nC,nD,nE]
          refine wpAnyH_ready  (rs:=[10]) (by kernel_rfl) (by simp) (AllReadyH.cons rfl (fun K hK=>?_) AllReadyH.nil);go_simp;refine(jaH _ _ _ HX.out).mono ?_;rintro e7 w7 ⟨rfl,rfl⟩;exact⟨rfl,jM.bad (by rw[HE.out]) HX.out (Ur.out _)⟩
      · have HE:=lH (show jZ jE by_ l=(0,acc) by rw[HM.out,←HQ.out,jbE (by rw[HL.out];exact hlt)]);clear hres ho hB;go_wp2;go_ret;exact jM.good (by rw[HE.out]) (by rw[HE.out];exact HO.out) Vt.out
 · obtain⟨HM,HA,H1⟩:=lH3 (show jZ jE by_ l=(jf l,[]) by unfold jZ;rw[if_pos h1]) hr h1;clear h1 hr;go_enter Tryz.func59,Tryz.ntmps59;go_wp2_with fail
   refine(zn _ _ _ l _ HA.out).mono ?_;rintro e1 w1 ⟨_,g1,k1⟩;obtain rfl:=g1 H1.out;have K1:=lH k1;clear g1 k1;go_wp2;exact⟨rfl,jM.bad (by rw[HM.out]) H1.out K1.out⟩
end Go.Proofs.YtnfojaidmnccoaaGreatDoor.Vec
