/- What serves all packages,and package by package the contracts of the functions that the law calls. -/
import Derived.Test.YtgfoenfaohhjcaaGreatShort
import Derived.WalkLawsBesides
import Derived.WalkSpells
import Derived.Deep.AppendLies
import Derived.Shelf.Small.Bits
import Derived.Shelf.Sort.Plain
import Derived.Shelf.Slices.Turned
import Derived.Shelf.Slices.Cells
import Derived.Shelf.Slices.In.SortNone
import Derived.Lib.Split
import Derived.Lib.Join
import Derived.Lib.ParseIntB
import Derived.RangeFuncNested
import Derived.RangeFuncBound
import Derived.Lib.AtoiErrMem
import Derived.Shelf.Strings.BuilderX
import Derived.StillTailTactics
import Derived.Lib.ItoaLen
import Derived.Lib.AppendIntMem
import Derived.Lib.SmallJoins
import Derived.Test.YtgfoenfaohhjcaaGreatRows
import Derived.Stop.LaidErr
import Derived.Stop.Joined
import Derived.MakeChecks
set_option linter.unusedVariables false
set_option maxRecDepth 100000
set_option maxHeartbeats 25600000
namespace Go.Proofs.YtgfoenfaohhjcaaGreat
open Go.RowKit
def Kept (w w':World):Prop:=Below w.heap.size w w'
theorem Kept.refl (w:World):Kept w w:=Below.refl _ _
theorem Kept.trans {a b c:World} (h:Kept a b) (k:Kept b c):Kept a c:=Below.trans h (Below.mono k h.size)
theorem Kept.drewN (w:World) (n:Nat):Kept w (w.drewN n):=below_drewN (Below.refl _ _) n
theorem Kept.drew (w:World):Kept w w.drew:=Kept.drewN w 1
theorem ja (w:World) (o:Obj):Kept w (w.alloc o):=(Below.refl _ _).alloc (Nat.le_refl _) _
theorem jL (w:World) (o o':Obj):Kept w ((w.alloc o).alloc o'):=(ja w o).trans (ja _ o')
theorem cell_later {w w':World} {a:Addr} {u:Value} (k:Kept w w') (h:w.cell? a=some u):w'.cell? a=some u :=
 (Below.cell k (World.block_lt_of_cell? _ _ h)).trans h
theorem jb {a b:Int} (h:a=b):Ending.returned (.int .i64 a)=.returned (.int .i64 b):=by rw[h]
def ltS (s t:ByteArray):Bool:=Op.bytesLess s.toList t.toList
def eqS (s t:ByteArray):Bool:=s.toList==t.toList
def leS (s t:ByteArray):Bool:=ltS s t||eqS s t
theorem jY {s t:ByteArray}:eqS s t=true↔s=t:=by
 unfold eqS;rw[Lib.toList_data,Lib.toList_data,beq_iff_eq];constructor
 · intro h
   cases s;cases t
   simp only[ByteArray.mk.injEq];exact Array.ext' h
 · rintro rfl;rfl
theorem Yp (s:ByteArray):eqS s s=true:=jY.2 rfl
structure Lay (α:Type) where
 m:Nat
 cs:α→List Value
 fine:α→Prop
 len:∀x,(cs x).length=m
 one:∀x u,u ∈ cs x→u.oneCell'=true
 pos:0<m
theorem Zs (x:ByteArray) (u:Value) (h:u ∈ [Value.string x]):u.oneCell'=true:=by
 have e:u=Value.string x:=by simpa using h
 rw[e];rfl
theorem jcs (x y:ByteArray) (u:Value) (h:u ∈ [Value.string x,Value.string y]):u.oneCell'=true:=by
 have e:u=Value.string x∨u=Value.string y:=by simpa using h
 rcases e with e | e<;>rw[e]<;>rfl
theorem jaH (o:Int) (x y:ByteArray) (u:Value) (h:u ∈ [Value.int .i64 o,Value.string x,Value.string y]):u.oneCell'=true:=by
 have e:u=Value.int .i64 o∨u=Value.string x∨u=Value.string y:=by simpa using h
 rcases e with e | e | e<;>rw[e]<;>rfl
def StrLay:Lay ByteArray:={ m:=1,cs:=fun s=>[.string s],fine:=fun s=>s.size≤maxLen,len:=fun _=>rfl,one:=Zs,pos:=by decide }
def jm:Lay (ByteArray×ByteArray):={ m:=2,cs:=fun x=>[.string x.1,.string x.2],fine:=fun x=>x.1.size≤maxLen∧x.2.size≤maxLen,len:=fun _=>rfl,one:=fun x=>jcs x.1 x.2,pos:=by decide }
def ju:Lay (Int×ByteArray×ByteArray):={ m:=3,cs:=fun x=>[.int .i64 x.1,.string x.2.1,.string x.2.2],fine:=fun x=>(-9223372036854775808≤x.1∧x.1≤9223372036854775807)∧x.2.1.size≤maxLen∧x.2.2.size≤maxLen,len:=fun _=>rfl,one:=fun x=>jaH x.1 x.2.1 x.2.2,pos:=by decide }
def jh {α:Type} (L:Lay α) (w:World) (a:Option Addr) (len:Nat) (l:List α):Prop :=
 l.length=len∧len≤maxLen∧(∀x ∈ l,L.fine x) ∧
  (len=0∨∃b off,a=some ⟨b,off,none⟩∧b<w.heap.size ∧
    ∀i x j u,l[i]?=some x→(L.cs x)[j]?=some u→w.cell? ⟨b,off+i*L.m+j,none⟩=some u)
theorem jh.kept {α:Type} {L:Lay α} {w w':World} {a:Option Addr} {len:Nat} {l:List α} (h:jh L w a len l) (k:Kept w w'):jh L w' a len l:=by
 obtain⟨h0,h1,h2,h3⟩:=h;refine⟨h0,h1,h2,h3.imp id ?_⟩;rintro ⟨b,off,ha,hb,hc⟩;exact⟨b,off,ha,Nat.lt_of_lt_of_le hb k.size,fun i x j u hi hj=>(Below.cell k (p:=⟨b,off+i*L.m+j,none⟩) hb).trans (hc i x j u hi hj)⟩
theorem jh.nil {α:Type} {L:Lay α} (w:World) (a:Option Addr):jh L w a 0 []:=⟨rfl,by decide,fun i hi=>absurd hi (by simp),.inl rfl⟩
theorem jh.form {α:Type} {L:Lay α} {w:World} {a:Option Addr} {len:Nat} {l:List α} (h:jh L w a len l):len=0∨∃b off,a=some ⟨b,off,none⟩:=by
 obtain⟨_,_,_,h3⟩:=h;exact h3.imp id fun ⟨b,off,e,_⟩=>⟨b,off,e⟩
theorem jh.cells {α:Type} {L:Lay α} {w:World} {b off len:Nat} {l:List α} {k:Nat} (h:jh L w (some ⟨b,off,none⟩) len l) (hk:k<len) :
 ∃x,l[k]?=some x∧l.drop k=x::l.drop (k+1)∧b<w.heap.size∧L.fine x∧∀(j:Nat) u,(L.cs x)[j]?=some u→w.cell? ⟨b,off+k*L.m+j,none⟩=some u:=by
 obtain⟨h0,_,hf,h3⟩:=h;have hkl:k<l.length:=by omega
 rcases h3 with h3 | ⟨b',off',e,hb,hc⟩
 · omega
 · injection e with e;injection e with e1 e2 e3;subst e1;subst e2;have he:l[k]?=some l[k]:=List.getElem?_eq_getElem hkl;exact⟨l[k],he,List.drop_eq_getElem_cons hkl,hb,hf _ (List.getElem_mem hkl),fun j u hu=>hc k _ j u he hu⟩
theorem jh.str {w:World} {b off len:Nat} {l:List ByteArray} {k:Nat} (h:jh StrLay w (some ⟨b,off,none⟩) len l) (hk:k<len) :
 ∃x:ByteArray,l[k]?=some x∧l.drop k=x::l.drop (k+1)∧b<w.heap.size∧x.size≤maxLen∧w.cell? ⟨b,off+k,none⟩=some (.string x):=by
 obtain⟨x,h1,h2,h3,h4,h5⟩:=h.cells hk;exact⟨x,h1,h2,h3,h4,by have:=h5 0 _ rfl;simpa [StrLay] using this⟩
theorem jh.pair {w:World} {b off len:Nat} {l:List (ByteArray×ByteArray)} {k:Nat} (h:jh jm w (some ⟨b,off,none⟩) len l) (hk:k<len) :
 ∃x y:ByteArray,l[k]?=some (x,y)∧l.drop k=(x,y)::l.drop (k+1)∧b<w.heap.size∧x.size≤maxLen∧y.size≤maxLen∧w.cell? ⟨b,off+k*2,none⟩=some (.string x)∧w.cell? ⟨b,off+k*2+1,none⟩=some (.string y):=by
 obtain⟨⟨x,y⟩,h1,h2,h3,h4,h5⟩:=h.cells hk;exact⟨x,y,h1,h2,h3,h4.1,h4.2,h5 0 _ rfl,h5 1 _ rfl⟩
theorem jh.term {w:World} {b off len:Nat} {l:List (Int×ByteArray×ByteArray)} {k:Nat} (h:jh ju w (some ⟨b,off,none⟩) len l) (hk:k<len) :
 ∃(o:Int) (x y:ByteArray),l[k]?=some (o,x,y)∧l.drop k=(o,x,y)::l.drop (k+1)∧b<w.heap.size∧(-9223372036854775808≤o∧o≤9223372036854775807)∧x.size≤maxLen∧y.size≤maxLen ∧
  w.cell? ⟨b,off+k*3,none⟩=some (.int .i64 o)∧w.cell? ⟨b,off+k*3+1,none⟩=some (.string x)∧w.cell? ⟨b,off+k*3+2,none⟩=some (.string y):=by
 obtain⟨⟨o,x,y⟩,h1,h2,h3,h4,h5⟩:=h.cells hk;exact⟨o,x,y,h1,h2,h3,h4.1,h4.2.1,h4.2.2,h5 0 _ rfl,h5 1 _ rfl,h5 2 _ rfl⟩
def jc {α:Type} (L:Lay α) (l:List α):List Value:=l.flatMap L.cs
theorem jE {α:Type} (L:Lay α):∀l:List α,(jc L l).length=l.length*L.m
 | []=>by simp[jc]
 | x::t=>by
  have:=jE L t;unfold jc at this ⊢;rw[List.flatMap_cons,List.length_append,this,L.len,List.length_cons,Nat.add_mul,Nat.one_mul,Nat.add_comm]
theorem zK {α:Type} (L:Lay α) (l m:List α):jc L (l++m)=jc L l++jc L m:=by unfold jc;rw[List.flatMap_append]
theorem j6 {α:Type} (L:Lay α) (l:List α) (u:Value) (h:u ∈ jc L l):u.oneCell'=true:=by
 obtain⟨x,_,hu⟩:=List.mem_flatMap.1 h;exact L.one x u hu
theorem JI {α:Type} (L:Lay α):∀(l:List α) (i:Nat) (x:α) (j:Nat) (u:Value),l[i]?=some x→(L.cs x)[j]?=some u→(jc L l)[i*L.m+j]?=some u
 | [],i,x,j,u,h,_=>by simp at h
 | y::t,0,x,j,u,h,hu=>by
  have:y=x:=by simpa using h
  subst this;unfold jc;rw[List.flatMap_cons,Nat.zero_mul,Nat.zero_add,List.getElem?_append_left (List.getElem?_eq_some_iff.1 hu).1];exact hu
 | y::t,i+1,x,j,u,h,hu=>by
  have ih:=JI L t i x j u (by simpa using h) hu;unfold jc at ih ⊢;rw[List.flatMap_cons,List.getElem?_append_right (by rw[L.len,Nat.add_mul];omega),L.len];have:(i+1)*L.m+j-L.m=i*L.m+j:=by rw[Nat.add_mul];omega
  rw[this];exact ih
def Own {α:Type} (L:Lay α) (e:TypeId) (w:World) (base:Nat) (v:Value) (l:List α):Prop:=w.ownsRow base e L.m v l.length (jc L l)∧∀x ∈ l,L.fine x
theorem Own.nil {α:Type} {L:Lay α} (e:TypeId) (w:World) (base:Nat):Own L e w base (.slice none 0 0) []:=⟨World.ownsRow_nil w base e L.m,fun x h=>by cases h⟩
theorem Own.at_ {α:Type} {L:Lay α} {e:TypeId} {w:World} {base:Nat} {v:Value} {l:List α} (h:Own L e w base v l) :
 ∃a cap,v=.slice a l.length cap∧l.length≤cap∧cap≤maxLen∧jh L w a l.length l:=by
 obtain⟨h,hf⟩:=h;have h':=h;obtain⟨_,h1⟩:=h;rcases h1 with ⟨rfl,h0⟩ | ⟨g,cap,cur,rfl,hbg,hg,hn,hm,hs,ht⟩
 · have:l=[]:=List.eq_nil_of_length_eq_zero h0;subst this;exact⟨none,0,rfl,Nat.le_refl _,by decide,jh.nil w none⟩
 · refine⟨_,cap,rfl,hn,hm,rfl,Nat.le_trans hn hm,hf,.inr ⟨g,0,rfl,?_,fun i x j u hi hj=>?_⟩⟩
   · rcases Nat.lt_or_ge g w.heap.size with hlt | hge
     · exact hlt
     · rw[Array.getElem?_eq_none hge] at hg;cases hg
   · have c1:=h'.cells (g:=g) rfl _ _ (JI L l i x j u hi hj);rw[←c1];congr 1
     unfold Addr.add;split<;>simp_all
theorem Own.kept {α:Type} {L:Lay α} {e:TypeId} {w w':World} {base:Nat} {v:Value} {l:List α} (h:Own L e w base v l) (k:Kept w w'):Own L e w' base v l:=by
 obtain⟨⟨h0,h1⟩,hf⟩:=h;refine⟨⟨h0,h1.imp id ?_⟩,hf⟩;rintro ⟨g,cap,cur,rfl,hbg,hg,hn,hm,hs,ht⟩;refine⟨g,cap,cur,rfl,hbg,?_,hn,hm,hs,ht⟩;have hlt:g<w.heap.size:=by
  rcases Nat.lt_or_ge g w.heap.size with hlt | hge
  · exact hlt
  · rw[Array.getElem?_eq_none hge] at hg;cases hg
 exact(k.block g hlt).trans hg
theorem Own.base_le {α:Type} {L:Lay α} {e:TypeId} {w:World} {B B':Nat} {v:Value} {l:List α} (h:Own L e w B' v l) (hb:B≤B'):Own L e w B v l:=by
 obtain⟨⟨h0,h1⟩,hf⟩:=h;refine⟨⟨h0,h1.imp id ?_⟩,hf⟩;rintro ⟨g,cap,cur,rfl,hbg,rest⟩;exact⟨g,cap,cur,rfl,Nat.le_trans hb hbg,rest⟩
theorem Own.put {α:Type} {L:Lay α} {e:TypeId} {w:World} {B D:Nat} {v:Value} {l:List α} (h:Own L e w B v l) (hD:D<B) (o:Obj):Own L e (w.putObj D o) B v l:=by
 obtain⟨⟨h0,h1⟩,hf⟩:=h;refine⟨⟨h0,h1.imp id ?_⟩,hf⟩;rintro ⟨g,cap,cur,rfl,hbg,hg,rest⟩;exact⟨g,cap,cur,rfl,hbg,(World.putObj_heap_other (by omega)).trans hg,rest⟩
def Reads {α:Type} (L:Lay α) (w:World) (v:Value) (l:List α):Prop:=∃a cap,v=.slice a l.length cap∧l.length≤cap∧cap≤maxLen∧jh L w a l.length l
theorem Reads.kept {α:Type} {L:Lay α} {w w':World} {v:Value} {l:List α} (h:Reads L w v l) (k:Kept w w'):Reads L w' v l:=by
 obtain⟨a,cap,e,h1,h2,h3⟩:=h;exact⟨a,cap,e,h1,h2,h3.kept k⟩
theorem Own.reads {α:Type} {L:Lay α} {e:TypeId} {w:World} {base:Nat} {v:Value} {l:List α} (h:Own L e w base v l):Reads L w v l:=by
 obtain⟨a,cap,e,h1,h2,h3⟩:=h.at_;exact⟨a,cap,e,h1,h2,h3⟩
abbrev zC (c:Int):PanicEntry:={ v:=.iface 58 (.int .i64 c),recovered:=false }
def Jp (c:UInt8):Bool:=(decide (97≤(c.toNat:Int))&&decide ((c.toNat:Int)≤122))||(decide (48≤(c.toNat:Int))&&decide ((c.toNat:Int)≤57))
def isName (s:ByteArray):Bool:=decide (1≤s.size)&&decide (s.size≤12)&&s.data.toList.all Jp
theorem jd {a b:Bool} (h:a=b):Ending.returned (.bool a)=.returned (.bool b):=by rw[h]
theorem Zv (c:UInt8):Jp c=true↔((97≤(c.toNat:Int)∧(c.toNat:Int)≤122)∨(48≤(c.toNat:Int)∧(c.toNat:Int)≤57)):=by
 unfold Jp;simp only[Bool.or_eq_true,Bool.and_eq_true,decide_eq_true_eq]
theorem jdX {s:ByteArray} (h:s.data.toList.all Jp=true) (i:Nat) (hi:i<s.size):Jp s[i]=true:=by
 rw[List.all_eq_true] at h;exact h _ (by simp[ByteArray.getElem_eq_getElem_data])
theorem ja1 {s:ByteArray} (h:¬s.data.toList.all Jp=true):∃(j:Nat) (hj:j<s.size),Jp s[j]=false:=by
 rw[List.all_eq_true] at h;obtain⟨x,h⟩:=Classical.not_forall.1 h;obtain⟨hx,hn⟩:=Classical.not_imp.1 h;obtain⟨j,hj,e⟩:=List.getElem_of_mem hx;refine⟨j,by simpa using hj,?_⟩;have:s[j]'(by simpa using hj)=x:=by rw[←e];simp[ByteArray.getElem_eq_getElem_data]
 rw[this];simpa using hn
theorem jf (s:ByteArray) (w:World) (hs:s.size≤maxLen) :
 Calls Tryz.prog 40 #[.string s] w fun e w'=>e=.returned (.bool (isName s))∧w=w':=by
 unfold maxLen at hs;by_cases h1:1≤s.size
 · by_cases h2:s.size≤12
   · by_cases hall:s.data.toList.all Jp=true
     · have HV:=lH (show isName s=true by simp[isName,h1,h2,hall]);have HA:=lH (jdX hall);clear hall;go_enter Tryz.func40,Tryz.ntmps40;go_wp2;go_loop [3] (fun i=>∃k:Nat,k≤s.size∧i=.int .i64 k) (fun i=>s.size-(intOf i).toNat)
       case atStart=>exact⟨0,Nat.zero_le _,rfl⟩
       case round =>
        obtain⟨k,hk,rfl⟩:=hrel;by_cases hlt:k<s.size
        · have hok:=(Zv _).1 (HA.out k hlt);by_cases c1:(s[k].toNat:Int)<97
          · have c2:48≤(s[k].toNat:Int):=by omega
            have c3:(s[k].toNat:Int)≤57:=by omega
            clear hok;go_wp2;go_round
            case rel=>exact⟨k+1,by omega,by go_num⟩
            case measure=>simp[intOf];omega
          · have c2:(s[k].toNat:Int)≤122:=by omega
            clear hok;go_wp2;go_round
            case rel=>exact⟨k+1,by omega,by go_num⟩
            case measure=>simp[intOf];omega
        · go_wp2;go_ret;exact⟨jd HV.out.symm,rfl⟩
     · have HV:=lH (show isName s=false by simp only[isName,Bool.and_eq_false_iff];exact .inr (by simpa using hall));obtain⟨j,hj,hbad⟩:=ja1 hall;have HB:=lH hbad;clear hall hbad;go_enter Tryz.func40,Tryz.ntmps40;go_wp2;go_loop [3] (fun i=>∃k:Nat,k≤j∧i=.int .i64 k) (fun i=>s.size-(intOf i).toNat)
       case atStart=>exact⟨0,Nat.zero_le _,rfl⟩
       case round =>
        obtain⟨k,hk,rfl⟩:=hrel;have hlt:k<s.size:=by omega
        by_cases hok:Jp s[k]=true
        · have hkj:k+1≤j:=by
           rcases Nat.lt_or_eq_of_le hk with g | g
           · exact g
           · subst g;rw[HB.out] at hok;cases hok
          have hok:=(Zv _).1 hok;by_cases c1:(s[k].toNat:Int)<97
          · have c2:48≤(s[k].toNat:Int):=by omega
            have c3:(s[k].toNat:Int)≤57:=by omega
            clear hok;go_wp2;go_round
            case rel=>exact⟨k+1,by omega,by go_num⟩
            case measure=>simp[intOf];omega
          · have c2:(s[k].toNat:Int)≤122:=by omega
            clear hok;go_wp2;go_round
            case rel=>exact⟨k+1,by omega,by go_num⟩
            case measure=>simp[intOf];omega
        · have hbad:¬((97≤(s[k].toNat:Int)∧(s[k].toNat:Int)≤122)∨(48≤(s[k].toNat:Int)∧(s[k].toNat:Int)≤57)):=fun g=>hok ((Zv _).2 g);clear hok;by_cases c1:(s[k].toNat:Int)<97
          · by_cases c2:(s[k].toNat:Int)<48
            · clear hbad;go_wp2;go_ret;exact⟨jd HV.out.symm,rfl⟩
            · have c3:57<(s[k].toNat:Int):=by omega
              clear hbad;go_wp2;go_ret;exact⟨jd HV.out.symm,rfl⟩
          · have c2:122<(s[k].toNat:Int):=by omega
            have c3:57<(s[k].toNat:Int):=by omega
            have c4:¬(s[k].toNat:Int)<48:=by omega
            clear hbad;go_wp2;go_ret;exact⟨jd HV.out.symm,rfl⟩
   · have HV:=lH (show isName s=false by simp[isName,h2]);have h3:12<s.size:=by omega
     clear h2;go_enter Tryz.func40,Tryz.ntmps40;go_wp2;go_ret;exact⟨jd HV.out.symm,rfl⟩
 · have HV:=lH (show isName s=false by simp[isName,h1]);have h3:s.size<1:=by omega
   clear h1;go_enter Tryz.func40,Tryz.ntmps40;go_wp2;go_ret;exact⟨jd HV.out.symm,rfl⟩
end Go.Proofs.YtgfoenfaohhjcaaGreat
namespace Go.Proofs
open Go.Shelf
def Tryz.lays190_ren:Go.Shelf.Ren:=⟨fun | 190=>61 | 125=>97 | 258=>96 | 128=>135 | 129=>136 | 302=>126 | 303=>127 | 304=>128 | 305=>129 | 306=>130 | 307=>131 | 308=>132 | 309=>133 | 310=>134 | 333=>143 | 329=>144 | 330=>145 | 334=>146 | 335=>147 | 336=>148 | 344=>158 | n=>n,fun | 31=>29 | 9=>9 | 3=>3 | 46=>172 | 0=>0 | 51=>206 | 53=>208 | 4=>4 | 183=>199 | 182=>198 | 131=>40 | 5=>5 | 218=>216 | 222=>220 | 228=>230 | 229=>231 | n=>n,fun | n=>n⟩
theorem Tryz.lays190:Go.Proofs.Lays.n190 Tryz.prog Tryz.lays190_ren:={
 mixed:=by kernel_rfl
 f125:=Tryz.func97.trans (congrArg some (by kernel_rfl))
 f128:=Tryz.func135.trans (congrArg some (by kernel_rfl))
 f129:=Tryz.func136.trans (congrArg some (by kernel_rfl))
 f190:=Tryz.func61.trans (congrArg some (by kernel_rfl))
 f258:=Tryz.func96.trans (congrArg some (by kernel_rfl))
 f302:=Tryz.func126.trans (congrArg some (by kernel_rfl))
 f303:=Tryz.func127.trans (congrArg some (by kernel_rfl))
 f304:=Tryz.func128.trans (congrArg some (by kernel_rfl))
 f305:=Tryz.func129.trans (congrArg some (by kernel_rfl))
 f306:=Tryz.func130.trans (congrArg some (by kernel_rfl))
 f307:=Tryz.func131.trans (congrArg some (by kernel_rfl))
 f308:=Tryz.func132.trans (congrArg some (by kernel_rfl))
 f309:=Tryz.func133.trans (congrArg some (by kernel_rfl))
 f310:=Tryz.func134.trans (congrArg some (by kernel_rfl))
 f329:=Tryz.func144.trans (congrArg some (by kernel_rfl))
 f330:=Tryz.func145.trans (congrArg some (by kernel_rfl))
 f333:=Tryz.func143.trans (congrArg some (by kernel_rfl))
 f334:=Tryz.func146.trans (congrArg some (by kernel_rfl))
 f335:=Tryz.func147.trans (congrArg some (by kernel_rfl))
 f336:=Tryz.func148.trans (congrArg some (by kernel_rfl))
 f344:=Tryz.func158.trans (congrArg some (by kernel_rfl))
 t0:=Tryz.underlying0
 a0:=Tryz.isAgg0
 z0:=Tryz.sizeOf0
 v0:=Tryz.zeroValue0
 t3:=Tryz.underlying3
 a3:=Tryz.isAgg3
 z3:=Tryz.sizeOf3
 v3:=Tryz.zeroValue3
 t4:=Tryz.underlying4
 a4:=Tryz.isAgg4
 z4:=Tryz.sizeOf4
 v4:=Tryz.zeroValue4
 t5:=Tryz.underlying5
 a5:=Tryz.isAgg5
 z5:=Tryz.sizeOf5
 v5:=Tryz.zeroValue5
 t9:=Tryz.underlying9
 a9:=Tryz.isAgg9
 z9:=Tryz.sizeOf9
 v9:=Tryz.zeroValue9
 t31:=Tryz.underlying29
 a31:=Tryz.isAgg29
 z31:=Tryz.sizeOf29
 v31:=Tryz.zeroValue29
 t46:=Tryz.underlying172
 a46:=Tryz.isAgg172
 z46:=Tryz.sizeOf172
 v46:=Tryz.zeroValue172
 t51:=Tryz.underlying206
 a51:=Tryz.isAgg206
 z51:=Tryz.sizeOf206
 v51:=Tryz.zeroValue206
 t53:=Tryz.underlying208
 a53:=Tryz.isAgg208
 z53:=Tryz.sizeOf208
 v53:=Tryz.zeroValue208
 t131:=Tryz.underlying40
 a131:=Tryz.isAgg40
 z131:=Tryz.sizeOf40
 v131:=Tryz.zeroValue40
 t182:=Tryz.underlying198
 a182:=Tryz.isAgg198
 z182:=Tryz.sizeOf198
 v182:=Tryz.zeroValue198
 t183:=Tryz.underlying199
 a183:=Tryz.isAgg199
 z183:=Tryz.sizeOf199
 v183:=Tryz.zeroValue199
 t218:=Tryz.underlying216
 a218:=Tryz.isAgg216
 z218:=Tryz.sizeOf216
 v218:=Tryz.zeroValue216
 t222:=Tryz.underlying220
 a222:=Tryz.isAgg220
 z222:=Tryz.sizeOf220
 v222:=Tryz.zeroValue220
 t228:=Tryz.underlying230
 a228:=Tryz.isAgg230
 z228:=Tryz.sizeOf230
 v228:=Tryz.zeroValue230
 t229:=Tryz.underlying231
 a229:=Tryz.isAgg231
 z229:=Tryz.sizeOf231
 v229:=Tryz.zeroValue231 }
open Go.Sort Go.RowKit in
theorem Tryz.slices_Sort_string (blk off cap:Nat) (ss:List (List UInt8)) (w:World) (hH:Holds encStr w blk off ss.toArray) (hblk:blk<w.heap.size) (hsz:ss.length<4611686018427387904) :
 Calls Tryz.prog 61 #[.slice (some ⟨blk,off,none⟩) ss.length cap] w fun e w' =>
  e=.returned (.tuple #[])∧∃n os,w'=grow (putRow encStr (Sort.ahead w n) blk off (ss.mergeSort fun x y=>decide (x≤y)).toArray) os:=Any.slices_Sort_string Tryz.lays190 blk off cap ss w hH hblk hsz
def Tryz.lays114_ren:Go.Shelf.Ren:=⟨fun | 114=>73 | n=>n,fun | 28=>136 | 3=>3 | 4=>4 | 9=>9 | 20=>20 | 0=>0 | n=>n,fun | n=>n⟩
theorem Tryz.lays114:Go.Proofs.Lays.n114 Tryz.prog Tryz.lays114_ren:={
 mixed:=by kernel_rfl
 f114:=Tryz.func73.trans (congrArg some (by kernel_rfl))
 t0:=Tryz.underlying0
 a0:=Tryz.isAgg0
 z0:=Tryz.sizeOf0
 v0:=Tryz.zeroValue0
 t3:=Tryz.underlying3
 a3:=Tryz.isAgg3
 z3:=Tryz.sizeOf3
 v3:=Tryz.zeroValue3
 t4:=Tryz.underlying4
 a4:=Tryz.isAgg4
 z4:=Tryz.sizeOf4
 v4:=Tryz.zeroValue4
 t9:=Tryz.underlying9
 a9:=Tryz.isAgg9
 z9:=Tryz.sizeOf9
 v9:=Tryz.zeroValue9
 t20:=Tryz.underlying20
 a20:=Tryz.isAgg20
 z20:=Tryz.sizeOf20
 v20:=Tryz.zeroValue20
 t28:=Tryz.underlying136
 a28:=Tryz.isAgg136
 z28:=Tryz.sizeOf136
 v28:=Tryz.zeroValue136 }
open Go.Lib in
theorem Tryz.slices_Min_int (b off n c:Nat) (zs:List Int) (w:World) (hn:0<n) (hz:n≤zs.length) (hbig:n≤9223372036854775807) (hc:∀j,j<zs.length→w.cell? ⟨b,off+j,none⟩=some (.int .i64 (zs.getD j 0))) :
 Calls Tryz.prog 73 #[.slice (some ⟨b,off,none⟩) n c] w fun e w'=>e=.returned (.int .i64 (Lib.minOf (zs.take n)))∧w'=w:=Any.slices_Min_int Tryz.lays114 b off n c zs w hn hz hbig hc
def Tryz.lays194_ren:Go.Shelf.Ren:=⟨fun | 194=>62 | n=>n,fun | 31=>29 | 9=>9 | 3=>3 | 4=>4 | 0=>0 | n=>n,fun | n=>n⟩
theorem Tryz.lays194:Go.Proofs.Lays.n194 Tryz.prog Tryz.lays194_ren:={
 mixed:=by kernel_rfl
 f194:=Tryz.func62.trans (congrArg some (by kernel_rfl))
 t0:=Tryz.underlying0
 a0:=Tryz.isAgg0
 z0:=Tryz.sizeOf0
 v0:=Tryz.zeroValue0
 t3:=Tryz.underlying3
 a3:=Tryz.isAgg3
 z3:=Tryz.sizeOf3
 v3:=Tryz.zeroValue3
 t4:=Tryz.underlying4
 a4:=Tryz.isAgg4
 z4:=Tryz.sizeOf4
 v4:=Tryz.zeroValue4
 t9:=Tryz.underlying9
 a9:=Tryz.isAgg9
 z9:=Tryz.sizeOf9
 v9:=Tryz.zeroValue9
 t31:=Tryz.underlying29
 a31:=Tryz.isAgg29
 z31:=Tryz.sizeOf29
 v31:=Tryz.zeroValue29 }
open Go.RowKit Go.Lib Go.Sort in
theorem Tryz.slices_Compact_string (blk off cap:Nat) (zs:List (List UInt8)) (w:World) (hH:Holds encStr w blk off zs.toArray) (hsz:zs.length≤9223372036854775807) (hcap:zs.length≤cap) :
 Calls Tryz.prog 62 #[.slice (some ⟨blk,off,none⟩) zs.length cap] w fun e w'=>e=.returned (.slice (some ⟨blk,off,none⟩) (Lib.compact zs).length cap)∧∃q,w'=putRow encStr (Sort.ahead w q) blk off (Lib.compact zs++List.replicate (zs.length-(Lib.compact zs).length) []).toArray:=Any.slices_Compact_string Tryz.lays194 blk off cap zs w hH hsz hcap
open Go.RowKit Go.Lib Go.Sort in
theorem Tryz.slices_Compact_string_empty (a:Option Addr) (cap:Nat) (w:World) :
 Calls Tryz.prog 62 #[.slice a 0 cap] w fun e w'=>e=.returned (.slice a 0 cap)∧w'=w:=Any.slices_Compact_string_empty Tryz.lays194 a cap w
open Go.RowKit Go.Sort in
theorem Tryz.slices_Sort_string_none (p:Option Addr) (cap:Nat) (w:World) :
 Calls Tryz.prog 61 #[.slice p 0 cap] w fun e w'=>e=.returned (.tuple #[])∧w'=w:=Any.slices_Sort_string_none Tryz.lays190 p cap w
end Go.Proofs
namespace Go.Proofs.YtgfoenfaohhjcaaGreat.Vec
open Go.RowKit
def Ya (v x:Int) (w:World) (e:Ending) (w':World):Prop:=e=.returned (.tuple #[.int .i64 v,.int .i64 x])∧w=w'
def Ans (v x:Int) (w:World) (e:Ending) (w':World):Prop:=e=.returned (.tuple #[.int .i64 v,.int .i64 x])∧Kept w w'
theorem Ya.ans {v x:Int} {w:World} {e:Ending} {w':World} (h:Ya v x w e w'):Ans v x w e w':=by
 obtain⟨rfl,rfl⟩:=h;exact⟨rfl,Kept.refl _⟩
abbrev V:=List (ByteArray×Int)
def nm (l:V) (i:Nat):ByteArray:=(l.getD i (ByteArray.empty,0)).1
def qn (l:V) (i:Nat):Int:=(l.getD i (ByteArray.empty,0)).2
def zp (l:V):Prop:=∀i,i<l.length→(nm l i).size≤maxLen∧-9223372036854775808≤qn l i∧qn l i≤9223372036854775807
def jw (w:World) (a:Option Addr) (len:Nat) (l:V):Prop :=
 l.length=len∧len≤maxLen∧zp l ∧
  (len=0∨∃b off,a=some ⟨b,off,none⟩∧b<w.heap.size ∧
    ∀i,i<len→w.cell? ⟨b,off+i*2,none⟩=some (.string (nm l i))∧w.cell? ⟨b,off+i*2+1,none⟩=some (.int .i64 (qn l i)))
theorem jw.kept {w w':World} {a:Option Addr} {len:Nat} {l:V} (h:jw w a len l) (k:Kept w w'):jw w' a len l:=by
 obtain⟨h0,h1,h2,h3⟩:=h;refine⟨h0,h1,h2,h3.imp id ?_⟩;rintro ⟨b,off,ha,hb,hc⟩;exact⟨b,off,ha,Nat.lt_of_lt_of_le hb k.size,fun i hi =>
  ⟨(Below.cell k (p:=⟨b,off+i*2,none⟩) hb).trans (hc i hi).1,(Below.cell k (p:=⟨b,off+i*2+1,none⟩) hb).trans (hc i hi).2⟩⟩
theorem jw.nil (w:World):jw w none 0 []:=⟨rfl,by decide,fun i hi=>absurd hi (by simp),.inl rfl⟩
theorem drop_cons {l:V} {k:Nat} (h:k<l.length):l.drop k=(nm l k,qn l k)::l.drop (k+1):=by
 rw[List.drop_eq_getElem_cons h];have:l.getD k (ByteArray.empty,0)=l[k]:=by simp[List.getD,h]
 simp only[nm,qn,this]
theorem jw.cells {w:World} {b off len:Nat} {l:V} {k:Nat} (h:jw w (some ⟨b,off,none⟩) len l) (hk:k<len) :
 b<w.heap.size∧w.cell? ⟨b,off+k*2,none⟩=some (.string (nm l k))∧w.cell? ⟨b,off+k*2+1,none⟩=some (.int .i64 (qn l k)):=by
 obtain⟨_,_,_,h3⟩:=h;rcases h3 with h3 | ⟨b',off',e,hb,hc⟩
 · omega
 · injection e with e;injection e with e1 e2 e3;subst e1;subst e2;exact⟨hb,hc k hk⟩
theorem jw.form {w:World} {a:Option Addr} {len:Nat} {l:V} (h:jw w a len l):len=0∨∃b off,a=some ⟨b,off,none⟩:=by
 obtain⟨_,_,_,h3⟩:=h;exact h3.imp id fun ⟨b,off,e,_⟩=>⟨b,off,e⟩
def JL (l:V) (k:Nat):Option ByteArray:=if k=0 then none else some (nm l (k-1))
def jn (prev:Option ByteArray) (s:ByteArray):Bool:=match prev with | none=>false | some p=>leS s p
def jB:Option ByteArray→V→Int
 | _,[]=>0
 | prev,x::t=>if isName x.1=false then 3 else if x.2≤0 then 1 else if jn prev x.1=true then 13 else jB (some x.1) t
def jr (l:V):Int:=if 8<l.length then 4 else jB none l
theorem Zi {l:V} {k:Nat} (h:k=0) (s:ByteArray):jn (JL l k) s=false:=by unfold JL;rw[if_pos h];rfl
theorem Zk {l:V} {k:Nat} (h:¬k=0) (s:ByteArray):jn (JL l k) s=leS s (nm l (k-1)):=by unfold JL;rw[if_neg h];rfl
theorem Zc (l:V) (k:Nat):JL l (k+1)=some (nm l k):=by unfold JL;rw[if_neg (by omega)];rfl
theorem ZF {l:V} {k:Nat} {p:Option ByteArray} (h:k<l.length) (n1:isName (nm l k)=false):jB p (l.drop k)=3:=by
 rw[drop_cons h,jB,if_pos n1]
theorem jdm {l:V} {k:Nat} {p:Option ByteArray} (h:k<l.length) (n1:isName (nm l k)=true) (n2:qn l k≤0):jB p (l.drop k)=1:=by
 rw[drop_cons h,jB,if_neg (by rw[n1];decide),if_pos n2]
theorem Z7 {l:V} {k:Nat} {p:Option ByteArray} (h:k<l.length) (n1:isName (nm l k)=true) (n2:0<qn l k) (n3:jn p (nm l k)=true):jB p (l.drop k)=13:=by
 rw[drop_cons h,jB,if_neg (by rw[n1];decide),if_neg (by omega),if_pos n3]
theorem JY {l:V} {k:Nat} {p:Option ByteArray} (h:k<l.length) (n1:isName (nm l k)=true) (n2:0<qn l k) (n3:jn p (nm l k)=false):jB p (l.drop k)=jB (JL l (k+1)) (l.drop (k+1)):=by
 rw[drop_cons h,jB,if_neg (by rw[n1];decide),if_neg (by omega),if_neg (by rw[n3];decide),Zc]
theorem jdy {l:V} {k:Nat} {p:Option ByteArray} (h:¬k<l.length):jB p (l.drop k)=0:=by
 rw[List.drop_of_length_le (by omega),jB]
theorem Jr (a:Option Addr) (len cap:Nat) (l:V) (w:World) (hr:jw w a len l) :
 Calls Tryz.prog 41 #[.slice a len cap] w fun e w'=>e=.returned (.int .i64 (jr l))∧Kept w w':=by
 have hl:=hr.1;have hm:=hr.2.1;unfold maxLen at hm;have hf:=hr.2.2.1;by_cases h8:len≤8
 · have HV:=lH (show jr l=jB none l by unfold jr;rw[if_neg (by omega)]);rcases hr.form with h0 | ⟨b,off,rfl⟩
   · subst h0;have HE:=lH (show jr l=0 by rw[HV.out];rw[List.eq_nil_of_length_eq_zero hl];rfl);clear hr hl hf;go_enter Tryz.func41,Tryz.ntmps41;go_wp2;refine wp_loop_rounds 1 ?_;rw[rounds_succ];go_wp2;go_ret;exact⟨jb HE.out.symm,Kept.refl _⟩
   · have HF:=lH hf;have HR:=lH hr;have HL:=lH hl;clear hf hr hl;go_enter Tryz.func41,Tryz.ntmps41;go_wp2;go_loopw [3] (fun i wr=>∃k:Nat,k≤len∧i=.int .i64 k∧jB (JL l k) (l.drop k)=jB none l∧Kept w wr) (fun i _=>len-(intOf i).toNat)
     case atStart=>exact⟨0,Nat.zero_le _,rfl,rfl,Kept.refl _⟩
     case round =>
      obtain⟨k,hk,rfl,hrest,hK⟩:=hrel;by_cases hlt:k<len
      · have HK:=lH hK;have HS:=lH (HV.out.trans hrest.symm);have HT:=lH hrest;obtain⟨hb,c1,c2⟩:=(HR.out.kept hK).cells hlt;clear hK hrest;have hz:(nm l k).size≤maxLen:=(HF.out k (by rw[HL.out];exact hlt)).1;have HI:=lH (show k<l.length by rw[HL.out];exact hlt);by_cases n1:isName (nm l k)=true
        · have N1:=lH n1;by_cases n2:qn l k≤0
          · have N2:=lH n2;go_wp2_with (go_at_call 40;refine(jf _ _ hz).mono ?_;rintro e w' ⟨rfl,rfl⟩)
            go_ret;exact⟨jb (HS.out.trans (jdm HI.out N1.out N2.out)).symm,HK.out⟩
          · have n2:0<qn l k:=by omega
            have N2:=lH n2;by_cases h0:k=0
            · have hd:decide (0<k)=false:=by subst h0;decide
              have HP:=lH (Zi (l:=l) h0 (nm l k));clear h0;go_wp2_with (go_at_call 40;refine(jf _ _ hz).mono ?_;rintro e w' ⟨rfl,rfl⟩)
              go_quiet (fail)
              go_wp2;go_roundw
              case rel=>exact⟨k+1,by omega,by go_num,(JY HI.out N1.out N2.out HP.out).symm.trans HT.out,HK.out.trans (Kept.drewN _ _)⟩
              case measure=>simp[intOf];omega
            · have hd:decide (0<k)=true:=by simp;omega
              have g1:0≤(k:Int)-1:=by omega
              have g2:(k:Int)-1<(len:Int):=by omega
              have g3:((k:Int)-1).toNat=k-1:=by omega
              have HP:=lH (Zk (l:=l) h0 (nm l k));obtain⟨_,d1,d2⟩:=(HR.out.kept HK.out).cells (show k-1<len by omega);by_cases n3:leS (nm l k) (nm l (k-1))=true
              · have n3':(Op.bytesLess (nm l k).toList (nm l (k-1)).toList||(nm l k).toList==(nm l (k-1)).toList)=true:=n3;have N3:=lH n3;clear n3;go_wp2_with (go_at_call 40;refine(jf _ _ hz).mono ?_;rintro e w' ⟨rfl,rfl⟩)
                go_quiet (fail)
                go_wp2;go_ret;exact⟨jb (HS.out.trans (Z7 HI.out N1.out N2.out (HP.out.trans N3.out))).symm,HK.out.trans (Kept.drewN _ _)⟩
              · have n3:leS (nm l k) (nm l (k-1))=false:=by simpa using n3
                have n3':(Op.bytesLess (nm l k).toList (nm l (k-1)).toList||(nm l k).toList==(nm l (k-1)).toList)=false:=n3;have N3:=lH n3;clear n3;go_wp2_with (go_at_call 40;refine(jf _ _ hz).mono ?_;rintro e w' ⟨rfl,rfl⟩)
                go_quiet (fail)
                go_wp2;go_roundw
                case rel=>exact⟨k+1,by omega,by go_num,(JY HI.out N1.out N2.out (HP.out.trans N3.out)).symm.trans HT.out,HK.out.trans (Kept.drewN _ _)⟩
                case measure=>simp[intOf];omega
        · have n1:isName (nm l k)=false:=by simpa using n1
          have N1:=lH n1;go_wp2_with (go_at_call 40;refine(jf _ _ hz).mono ?_;rintro e w' ⟨rfl,rfl⟩)
          go_ret;exact⟨jb (HS.out.trans (ZF HI.out N1.out)).symm,HK.out⟩
      · have HK:=lH hK;have HS:=lH (HV.out.trans hrest.symm);have HI:=lH (show ¬k<l.length by rw[HL.out];exact hlt);clear hK hrest;go_wp2;go_ret;exact⟨jb (HS.out.trans (jdy HI.out)).symm,HK.out⟩
 · have HV:=lH (show jr l=4 by unfold jr;rw[if_pos (by omega)]);have h9:8<len:=by omega
   clear h8 hr hl hf;go_enter Tryz.func41,Tryz.ntmps41;go_wp2;go_ret;exact⟨jb HV.out.symm,Kept.refl _⟩
def Chk (l:V) (v:Value) (w:World) (e:Ending) (w':World):Prop :=
 (jr l=0→e=.returned v)∧(jr l≠0→e=.panicked [zC (jr l)])∧Kept w w'
theorem Chk.good {l:V} {v:Value} {w w':World} (h:jr l=0) (k:Kept w w'):Chk l v w (.returned v) w':=⟨fun _=>rfl,fun g=>absurd h g,k⟩
theorem Chk.bad {l:V} {v:Value} {w w':World} {c:Int} (h:jr l=c) (hc:c≠0) (k:Kept w w'):Chk l v w (.panicked [zC c]) w':=⟨fun g=>absurd (h.symm.trans g) hc,fun _=>by rw[h],k⟩
def jl:V→ByteArray→Int
 | [],_=>0
 | x::t,n=>if eqS x.1 n=true then x.2 else jl t n
theorem qh {l:V} {k:Nat} {n:ByteArray} (h:k<l.length) (e:eqS (nm l k) n=true):jl (l.drop k) n=qn l k:=by rw[drop_cons h,jl,if_pos e]
theorem qq {l:V} {k:Nat} {n:ByteArray} (h:k<l.length) (e:eqS (nm l k) n=false):jl (l.drop k) n=jl (l.drop (k+1)) n:=by rw[drop_cons h,jl,if_neg (by rw[e];decide)]
theorem jar {l:V} {k:Nat} {n:ByteArray} (h:¬k<l.length):jl (l.drop k) n=0:=by rw[List.drop_of_length_le (by omega),jl]
theorem Xb (a:Option Addr) (len cap:Nat) (l:V) (n:ByteArray) (w:World) (hr:jw w a len l) :
 Calls Tryz.prog 157 #[.slice a len cap,.string n] w fun e w'=>e=.returned (.int .i64 (jl l n))∧Kept w w':=by
 have hl:=hr.1;have hm:=hr.2.1;unfold maxLen at hm;rcases hr.form with h0 | ⟨b,off,rfl⟩
 · subst h0;have HE:=lH (show jl l n=0 by rw[List.eq_nil_of_length_eq_zero hl];rfl);clear hr hl;go_enter Tryz.func157,Tryz.ntmps157;go_wp2;refine wp_loop_rounds 1 ?_;rw[rounds_succ];go_wp2;go_ret;exact⟨jb HE.out.symm,Kept.refl _⟩
 · have HR:=lH hr;have HL:=lH hl;clear hr hl;go_enter Tryz.func157,Tryz.ntmps157;go_wp2;go_loopw [9] (fun i wr=>∃k:Nat,k≤len∧i=.int .i64 k∧jl (l.drop k) n=jl l n∧Kept w wr) (fun i _=>len-(intOf i).toNat)
   case atStart=>exact⟨0,Nat.zero_le _,rfl,rfl,Kept.refl _⟩
   case round =>
    obtain⟨k,hk,rfl,hrest,hK⟩:=hrel;have HK:=lH hK;have HS:=lH hrest;by_cases hlt:k<len
    · obtain⟨hb,c1,c2⟩:=(HR.out.kept hK).cells hlt;clear hK hrest;have HI:=lH (show k<l.length by rw[HL.out];exact hlt);by_cases e:eqS (nm l k) n=true
      · have E:=lH e;have e':((nm l k).toList==n.toList)=true:=e;clear e;go_wp2;go_ret;exact⟨jb (HS.out.symm.trans (qh HI.out E.out)).symm,HK.out.trans (ja _ _)⟩
      · have e:eqS (nm l k) n=false:=by simpa using e
        have E:=lH e;have e':((nm l k).toList==n.toList)=false:=e;clear e;go_wp2;go_roundw
        case rel=>exact⟨k+1,by omega,by go_num,(qq HI.out E.out).symm.trans HS.out,HK.out.trans (ja _ _)⟩
        case measure=>simp[intOf];omega
    · have HI:=lH (show ¬k<l.length by rw[HL.out];exact hlt);clear hK hrest;go_wp2;go_ret;exact⟨jb (HS.out.symm.trans (jar HI.out)).symm,HK.out⟩
def zk:V→Bool
 | []=>true
 | x::t=>decide (x.1.size≤50)&&zk t
def Jt (l:V):Bool:=decide (l.length≤20)&&zk l
theorem Xc (a:Option Addr) (len cap:Nat) (l:V) (w:World) (hr:jw w a len l) :
 Calls Tryz.prog 36 #[.slice a len cap] w fun e w'=>e=.returned (.bool (Jt l))∧w=w':=by
 have hl:=hr.1;have hm:=hr.2.1;have hf:=hr.2.2.1;unfold maxLen at hm;by_cases h20:len≤20
 · have HV:=lH (show Jt l=zk l by unfold Jt;rw[decide_eq_true (by omega)];rfl);rcases hr.form with h0 | ⟨b,off,rfl⟩
   · subst h0;have HE:=lH (show Jt l=true by rw[HV.out,List.eq_nil_of_length_eq_zero hl];rfl);clear hr hl hf;go_enter Tryz.func36,Tryz.ntmps36;go_wp2;refine wp_loop_rounds 1 ?_;rw[rounds_succ];go_wp2;go_ret;exact⟨jd HE.out.symm,rfl⟩
   · have HR:=lH hr;have HL:=lH hl;have HF:=lH hf;clear hr hl hf;go_enter Tryz.func36,Tryz.ntmps36;go_wp2;go_loop [3] (fun i=>∃k:Nat,k≤len∧i=.int .i64 k∧zk (l.drop k)=zk l) (fun i=>len-(intOf i).toNat)
     case atStart=>exact⟨0,Nat.zero_le _,rfl,rfl⟩
     case round =>
      obtain⟨k,hk,rfl,hrest⟩:=hrel;have HS:=lH hrest;clear hrest;by_cases hlt:k<len
      · obtain⟨hb,c1,c2⟩:=HR.out.cells hlt;have HI:=lH (show k<l.length by rw[HL.out];exact hlt);have hz:=(HF.out k HI.out).1;unfold maxLen at hz;by_cases e:(nm l k).size≤50
        · have E:=lH (show zk (l.drop k)=zk (l.drop (k+1)) by rw[drop_cons HI.out,zk,decide_eq_true e];rfl);go_wp2;go_round
          case rel=>exact⟨k+1,by omega,by go_num,E.out.symm.trans HS.out⟩
          case measure=>simp[intOf];omega
        · have E:=lH (show zk (l.drop k)=false by rw[drop_cons HI.out,zk,decide_eq_false e];rfl);have e':50<(nm l k).size:=by omega
          clear e;go_wp2;go_ret;exact⟨jd (HV.out.trans (HS.out.symm.trans E.out)).symm,rfl⟩
      · have HI:=lH (show zk (l.drop k)=true by rw[List.drop_of_length_le (by rw[HL.out];omega),zk]);go_wp2;go_ret;exact⟨jd (HV.out.trans (HS.out.symm.trans HI.out)).symm,rfl⟩
 · have HV:=lH (show Jt l=false by unfold Jt;rw[decide_eq_false (by omega)];rfl);have h9:20<len:=by omega
   clear h20 hr hl hf;go_enter Tryz.func36,Tryz.ntmps36;go_wp2;go_ret;exact⟨jd HV.out.symm,rfl⟩
theorem Zf {w W:World} {p q:Prop} (h:p∧q∧Kept w W):Kept w W:=h.2.2
theorem Xe {w W W':World} {a b:Addr} {x y:Value} (h:W.cell? a=some x∧W.cell? b=some y∧Kept w W) (k:Kept W W'):W'.cell? a=some x∧W'.cell? b=some y∧Kept w W' :=
 ⟨cell_later k h.1,cell_later k h.2.1,h.2.2.trans k⟩
def jR (have_:V):V→Bool
 | []=>true
 | x::t=>decide (x.2≤jl have_ x.1)&&jR have_ t
def cellsOf:V→List Value
 | []=>[]
 | x::t=>.string x.1::.int .i64 x.2::cellsOf t
theorem JF:∀l:V,(cellsOf l).length=l.length*2
 | []=>rfl
 | x::t=>by simp only[cellsOf,List.length_cons,JF t];omega
theorem JB:∀l m:V,cellsOf (l++m)=cellsOf l++cellsOf m
 | [],_=>rfl
 | x::t,m=>by simp only[List.cons_append,cellsOf,JB t m]
theorem jdt (x:ByteArray×Int) (t:V):nm (x::t) 0=x.1:=rfl
theorem jdn (x:ByteArray×Int) (t:V) (i:Nat):nm (x::t) (i+1)=nm t i:=rfl
theorem jdr (x:ByteArray×Int) (t:V):qn (x::t) 0=x.2:=rfl
theorem jdk (x:ByteArray×Int) (t:V) (i:Nat):qn (x::t) (i+1)=qn t i:=rfl
theorem ZB:∀(l:V) (i:Nat),i<l.length→(cellsOf l)[i*2]?=some (.string (nm l i))∧(cellsOf l)[i*2+1]?=some (.int .i64 (qn l i))
 | [],i,h=>absurd h (by simp)
 | x::t,0,_=>⟨rfl,rfl⟩
 | x::t,i+1,h=>by
  have:=ZB t i (by simpa using h);rw[jdn,jdk,show (i+1)*2=i*2+1+1 from by omega];exact this
theorem JK:∀(l:V) (u:Value),u ∈ cellsOf l→u.oneCell'=true
 | x::t,u,h=>by
  simp only[cellsOf,List.mem_cons] at h;rcases h with rfl | rfl | h
  · rfl
  · rfl
  · exact JK t u h
theorem zp.cons {x:ByteArray×Int} {t:V}:zp (x::t)↔(x.1.size≤maxLen∧-9223372036854775808≤x.2∧x.2≤9223372036854775807)∧zp t:=by
 constructor
 · intro h;exact⟨h 0 (by simp),fun i hi=>h (i+1) (by simpa using hi)⟩
 · rintro ⟨h0,h⟩ i hi
   cases i with
   | zero=>exact h0
   | succ i=>exact h i (by simpa using hi)
theorem zp.nil:zp []:=fun i hi=>absurd hi (by simp)
theorem zp.snoc:∀{l:V} {s:ByteArray} {n:Int},zp l→s.size≤maxLen→-9223372036854775808≤n→n≤9223372036854775807→zp (l++[(s,n)])
 | [],s,n,_,h1,h2,h3=>zp.cons.2 ⟨⟨h1,h2,h3⟩,zp.nil⟩
 | x::t,s,n,h,h1,h2,h3=>by
  rw[zp.cons] at h;exact zp.cons.2 ⟨h.1,h.2.snoc h1 h2 h3⟩
def jT (e:TypeId) (w:World) (base:Nat) (v:Value) (l:V):Prop:=w.ownsRow base e 2 v l.length (cellsOf l)∧zp l
theorem jT.nil (e:TypeId) (w:World) (base:Nat):jT e w base (.slice none 0 0) []:=⟨World.ownsRow_nil w base e 2,zp.nil⟩
theorem jT.at_ {e:TypeId} {w:World} {base:Nat} {v:Value} {l:V} (h:jT e w base v l) :
 ∃a cap,v=.slice a l.length cap∧l.length≤cap∧cap≤maxLen∧jw w a l.length l:=by
 obtain⟨h,hf⟩:=h;have h':=h;obtain⟨_,h1⟩:=h;rcases h1 with ⟨rfl,h0⟩ | ⟨g,cap,cur,rfl,hbg,hg,hn,hm,hs,ht⟩
 · have:l=[]:=List.eq_nil_of_length_eq_zero h0;subst this;exact⟨none,0,rfl,Nat.le_refl _,by decide,jw.nil w⟩
 · refine⟨_,cap,rfl,hn,hm,rfl,Nat.le_trans hn hm,hf,.inr ⟨g,0,rfl,?_,fun i hi=>?_⟩⟩
   · rcases Nat.lt_or_ge g w.heap.size with hlt | hge
     · exact hlt
     · rw[Array.getElem?_eq_none hge] at hg;cases hg
   · have c:=h'.cells (g:=g) rfl;have d:=ZB l i hi;have c1:=c _ _ d.1;have c2:=c _ _ d.2;constructor
     · rw[←c1];congr 1;unfold Addr.add;split<;>simp_all
     · rw[←c2];congr 1
theorem jT.kept {e:TypeId} {w w':World} {base:Nat} {v:Value} {l:V} (h:jT e w base v l) (k:Kept w w'):jT e w' base v l:=by
 obtain⟨⟨h0,h1⟩,hf⟩:=h;refine⟨⟨h0,h1.imp id ?_⟩,hf⟩;rintro ⟨g,cap,cur,rfl,hbg,hg,hn,hm,hs,ht⟩;refine⟨g,cap,cur,rfl,hbg,?_,hn,hm,hs,ht⟩;have hlt:g<w.heap.size:=by
  rcases Nat.lt_or_ge g w.heap.size with hlt | hge
  · exact hlt
  · rw[Array.getElem?_eq_none hge] at hg;cases hg
 exact(k.block g hlt).trans hg
theorem jcO (w:World) (s:ByteArray) (n:Int) (T:TypeId):∀j u,[Value.string s,.int .i64 n][j]?=some u →
 (w.alloc (.cells #[.string s,.int .i64 n] T)).cell? ((⟨w.heap.size,0,none⟩:Addr).add j)=some u :=
 World.news_of_block (cs:=#[.string s,.int .i64 n]) (t:=T) (fr:=(0,0)) (w.alloc_heap_new _)
def zh:V→ByteArray→Int×V
 | [],_=>(0,[])
 | x::t,n=>if eqS x.1 n=true then (x.2,t) else (0,x::t)
def jN:V→V→ByteArray
 | [],[]=>ByteArray.empty
 | [],y::_=>y.1
 | x::_,[]=>x.1
 | x::_,y::_=>if ltS y.1 x.1=true then y.1 else x.1
def Reads (w:World) (v:Value) (l:V):Prop:=∃a cap,v=.slice a l.length cap∧l.length≤cap∧cap≤maxLen∧jw w a l.length l
theorem Reads.kept {w w':World} {v:Value} {l:V} (h:Reads w v l) (k:Kept w w'):Reads w' v l:=by
 obtain⟨a,cap,e,h1,h2,h3⟩:=h;exact⟨a,cap,e,h1,h2,h3.kept k⟩
theorem jw.first {w:World} {b off len:Nat} {x:ByteArray×Int} {t:V} (h:jw w (some ⟨b,off,none⟩) len (x::t)) :
 b<w.heap.size∧w.cell? ⟨b,off,none⟩=some (.string x.1)∧w.cell? ⟨b,off+1,none⟩=some (.int .i64 x.2):=by
 have hl:0<len:=by have:=h.1;simp only[List.length_cons] at this;omega
 have:=h.cells hl;simpa [jdt,jdr] using this
def jX (x y:Int):Int×Int:=if x+y≤9223372036854775807 then (x+y,0) else (0,5)
theorem jdM {x y:Int} (h:0≤x∧x≤9223372036854775807) (g:0≤y∧y≤9223372036854775807):0≤(jX x y).1∧(jX x y).1≤9223372036854775807:=by
 unfold jX;split
 · dsimp only;omega
 · decide
def XM (acc:V) (s:ByteArray) (n:Int):V:=if n=0 then acc else acc++[(s,n)]
def ZC (f:Int→Int→Int×Int):Nat→V→V→V→Int×V
 | 0,_,_,acc=>(0,acc)
 | fuel+1,la,lb,acc =>
  if la.length+lb.length=0 then (0,acc)
  else
   let s:=jN la lb
   let r:=f (zh la s).1 (zh lb s).1
   if r.2≠0 then (r.2,[]) else ZC f fuel (zh la s).2 (zh lb s).2 (XM acc s r.1)
def jF (f:Int→Int→Int×Int) (l l':V):Int×V :=
 if jr l≠0 then (jr l,[])
 else if jr l'≠0 then (jr l',[])
 else
  let r:=ZC f (l.length+l'.length) l l' []
  if r.1≠0 then (r.1,[]) else if 8<r.2.length then (4,[]) else (0,r.2)
theorem Yp (s:ByteArray):eqS s s=true:=by unfold eqS;exact beq_self_eq_true _
theorem j5 (x:ByteArray×Int) (t:V) (n:ByteArray):zh (x::t) n=if eqS x.1 n=true then (x.2,t) else (0,x::t):=rfl
theorem zF (x y:ByteArray×Int) (s t:V):jN (x::s) (y::t)=if ltS y.1 x.1=true then y.1 else x.1:=rfl
theorem Xu {l:V} (h:jr l=0):l.length≤8:=by
 unfold jr at h;split at h
 · cases h
 · omega
def YI (r:Int×V) (base:Nat) (w:World) (e:Ending) (w':World):Prop :=
 (r.1=0→∃v,e=.returned v∧jT 121 w' base v r.2)∧(r.1≠0→e=.panicked [zC r.1])∧Below base w w'
theorem YI.good {r:Int×V} {base:Nat} {w w':World} {v:Value} (h:r.1=0) (ho:jT 121 w' base v r.2) (hb:Below base w w'):YI r base w (.returned v) w':=⟨fun _=>⟨v,rfl,ho⟩,fun g=>absurd h g,hb⟩
theorem YI.bad {r:Int×V} {base:Nat} {w w':World} {c:Int} (h:r.1=c) (hc:c≠0) (hb:Below base w w'):YI r base w (.panicked [zC c]) w':=⟨fun g=>absurd (h.symm.trans g) hc,fun _=>by rw[h],hb⟩
theorem jT.base_le {e:TypeId} {w:World} {B B':Nat} {v:Value} {l:V} (h:jT e w B' v l) (hb:B≤B'):jT e w B v l:=by
 obtain⟨⟨h0,h1⟩,hf⟩:=h;refine⟨⟨h0,h1.imp id ?_⟩,hf⟩;rintro ⟨g,cap,cur,rfl,hbg,rest⟩;exact⟨g,cap,cur,rfl,Nat.le_trans hb hbg,rest⟩
def jd1 (r:Int×V) (w:World) (e:Ending) (w':World):Prop :=
 ∃v,e=.returned (.tuple #[v,.int .i64 r.1])∧jT 121 w' w.heap.size v r.2∧Kept w w'
end Go.Proofs.YtgfoenfaohhjcaaGreat.Vec
namespace Go.Proofs.YtgfoenfaohhjcaaGreat
open Go.RowKit
theorem zA {α:Type} {l:List α} {k:Nat} (h:¬k<l.length):l.drop k=[]:=List.drop_of_length_le (by omega)
theorem all_cons {α:Type} (f:α→Bool) (x:α) (t:List α):(x::t).all f=(f x&&t.all f):=rfl
theorem jZ {α:Type} {l:List α} {k:Nat} {x:α} (h:l[k]?=some x):l.take (k+1)=l.take k++[x]:=by rw[List.take_add_one,h];rfl
theorem Own.snoc {α:Type} {L:Lay α} {e:TypeId} {w:World} {base n:Nat} {v:Value} {l:List α} {x:α} (h:w.ownsRow base e L.m v n (jc L l++L.cs x)) (hn:l.length+1=n) (hf:∀z ∈ l,L.fine z) (hx:L.fine x):Own L e w base v (l++[x]):=by
 refine⟨?_,fun z hz=>?_⟩
 · rw[List.length_append,zK];show w.ownsRow base e L.m v (l.length+1) (jc L l++jc L [x]);rw[hn];have e:jc L [x]=L.cs x:=by unfold jc;simp
   rw[e];exact h
 · rcases List.mem_append.1 hz with g | g
   · exact hf z g
   · have:z=x:=by simpa using g
     rw[this];exact hx
def Say (v:Value) (w:World) (e:Ending) (w':World):Prop:=e=.returned v∧Kept w w'
theorem Reads.nil {α:Type} {L:Lay α} (w:World):Reads L w (.slice none 0 0) []:=⟨none,0,rfl,Nat.le_refl _,by decide,jh.nil w none⟩
theorem Reads.fine {α:Type} {L:Lay α} {v:Value} {l:List α} {w:World} (h:Reads L w v l):∀x ∈ l,L.fine x:=by
 obtain⟨a,cap,rfl,h1,h2,h3⟩:=h;exact h3.2.2.1
theorem jh.part {α:Type} {L:Lay α} {w:World} {b off len:Nat} {l:List α} (h:jh L w (some ⟨b,off,none⟩) len l) (i n:Nat) (hi:i+n≤len) :
 jh L w (some ⟨b,off+i*L.m,none⟩) n ((l.drop i).take n):=by
 obtain⟨h0,h1,h2,h3⟩:=h;refine⟨by rw[List.length_take,List.length_drop];omega,by omega,fun x hx=>h2 x (List.mem_of_mem_drop (List.mem_of_mem_take hx)),?_⟩;rcases h3 with h3 | ⟨b',off',e,hb,hc⟩
 · exact .inl (by omega)
 · injection e with e;injection e with e1 e2 e3;subst e1;subst e2;refine .inr ⟨b,_,rfl,hb,fun k x j u hk hj=>?_⟩;have hkn:k<n:=by have:=(List.getElem?_eq_some_iff.1 hk).1;rw[List.length_take] at this;omega
   have hk':l[i+k]?=some x:=by
    rw[List.getElem?_take,if_pos hkn,List.getElem?_drop] at hk;exact hk
   have:=hc (i+k) x j u hk' hj;rw[show off+i*L.m+k*L.m+j=off+(i+k)*L.m+j by rw[Nat.add_mul];omega];exact this
open Go.RowKit Go.Shelf
def bytes (l:List UInt8):ByteArray:=⟨l.toArray⟩
theorem jbf (s:ByteArray):bytes s.data.toList=s:=by apply Go.WideShapes.bytes_inj;simp[bytes]
attribute [local go_sem] Oper.semAt_some
structure St (b2 D:Nat) (W W':World):Prop where
 os:W'.os=W.os
 tape:W'.tape=W.tape
 output:W'.output=W.output
 size:W.heap.size≤W'.heap.size
 block:∀b,b≠b2→b≠D→b≠D+1→W'.heap[b]?=W.heap[b]?
theorem St.setCell {b2 D:Nat} (W:World) (v:Value):St b2 D W (W.setCell ⟨b2,0,none⟩ v) :=
 ⟨rfl,rfl,rfl,by show W.heap.size≤(W.heap.modify _ _).size;rw[Array.size_modify];exact Nat.le_refl _,fun b h _ _=>Below.heap_setCell W ⟨b2,0,none⟩ v b h⟩
theorem St.drewN {b2 D:Nat} (W:World) (n:Nat):St b2 D W (W.drewN n):=⟨rfl,rfl,rfl,Nat.le_refl _,fun _ _ _ _=>rfl⟩
theorem St.put {b2 D:Nat} (W:World) (o:Obj):St b2 D W (W.putObj (D+1) o):=⟨rfl,rfl,rfl,by simp,fun b _ _ h=>World.putObj_heap_other h⟩
def KeptAt (b1 b2 b3 D:Nat) (W W':World):Prop:=∀b,b=b1∨b=b2∨b=b3∨b=D∨b=D+1→W'.heap[b]?=W.heap[b]?
theorem KeptAt.trans {b1 b2 b3 D:Nat} {A B C:World} (h:KeptAt b1 b2 b3 D A B) (k:KeptAt b1 b2 b3 D B C):KeptAt b1 b2 b3 D A C:=fun b hb=>(k b hb).trans (h b hb)
theorem KeptAt.drewN {b1 b2 b3 D:Nat} (W:World) (n:Nat):KeptAt b1 b2 b3 D W (W.drewN n):=fun _ _=>rfl
end Go.Proofs.YtgfoenfaohhjcaaGreat
namespace Go.Proofs.YtgfoenfaohhjcaaGreat
open Go.RowKit Go.Shelf
attribute [local go_sem] Oper.semAt_some
theorem Own.row {α:Type} {L:Lay α} {e:TypeId} {w:World} {B n:Nat} {v:Value} {l:List α} (h:Own L e w B v l) (hn:l.length=n):w.ownsRow B e L.m v n (jc L l):=hn▸h.1
def YL {α:Type} (L:Lay α) (e:TypeId) (r:Int×List α) (base:Nat) (w:World) (en:Ending) (w':World):Prop :=
 (r.1=0→∃v,en=.returned v∧Own L e w' base v r.2)∧(r.1≠0→en=.panicked [zC r.1])∧Below base w w'
theorem YL.good {α:Type} {L:Lay α} {e:TypeId} {r:Int×List α} {base:Nat} {w w':World} {v:Value} (h:r.1=0) (ho:Own L e w' base v r.2) (hb:Below base w w'):YL L e r base w (.returned v) w':=⟨fun _=>⟨v,rfl,ho⟩,fun g=>absurd h g,hb⟩
theorem YL.bad {α:Type} {L:Lay α} {e:TypeId} {r:Int×List α} {base:Nat} {w w':World} {c:Int} (h:r.1=c) (hc:c≠0) (hb:Below base w w'):YL L e r base w (.panicked [zC c]) w':=⟨fun g=>absurd (h.symm.trans g) hc,fun _=>by rw[h],hb⟩
end Go.Proofs.YtgfoenfaohhjcaaGreat
namespace Go.Proofs.YtgfoenfaohhjcaaGreat.Vec
open Go.RowKit
def nameOf (p:List UInt8):List UInt8:=(Lib.cut p [61]).1
def jb2 (p:List UInt8):List UInt8:=(Lib.cut p [61]).2.1
end Go.Proofs.YtgfoenfaohhjcaaGreat.Vec
namespace Go.Proofs.YtgfoenfaohhjcaaGreat.Vec
open Go.RowKit Go.Shelf
attribute [local go_sem] Oper.semAt_some
theorem jT.put {e:TypeId} {w:World} {B D:Nat} {v:Value} {l:V} (h:jT e w B v l) (hD:D<B) (o:Obj):jT e (w.putObj D o) B v l:=by
 obtain⟨⟨h0,h1⟩,hf⟩:=h;refine⟨⟨h0,h1.imp id ?_⟩,hf⟩;rintro ⟨g,cap,cur,rfl,hbg,hg,rest⟩;exact⟨g,cap,cur,rfl,hbg,(World.putObj_heap_other (by omega)).trans hg,rest⟩
theorem jT.row {e:TypeId} {w:World} {B n:Nat} {v:Value} {l:V} (h:jT e w B v l) (hn:l.length=n):w.ownsRow B e 2 v n (cellsOf l):=hn▸h.1
end Go.Proofs.YtgfoenfaohhjcaaGreat.Vec
namespace Go.Proofs.YtgfoenfaohhjcaaGreat.Vec
open Go.RowKit Go.Shelf
def YN (b:Nat) (w w':World):Prop:=∀g cs fr,g≠b→w.heap[g]?=some (.cells cs 121 fr)→w'.heap[g]?=w.heap[g]?
theorem YN.trans {b:Nat} {x y z:World} (h:YN b x y) (k:YN b y z):YN b x z:=fun g cs fr hg hc=>(k g cs fr hg ((h g cs fr hg hc).trans hc)).trans (h g cs fr hg hc)
open Go.RowKit
theorem Reads.nil (w:World):Reads w (.slice none 0 0) []:=⟨none,0,rfl,Nat.le_refl _,by decide,jw.nil w⟩
theorem zu {v:Value} {l:V} {c:Int} {w:World} (h:Reads w v l) (e:jr l=c) :
 Calls Tryz.prog 41 #[v] w fun x w'=>x=.returned (.int .i64 c)∧Kept w w':=by
 subst e;obtain⟨a,cap,rfl,h1,h2,h3⟩:=h;exact Jr a _ cap l w h3
theorem jaN {v:Value} {l:V} {n:ByteArray} {c:Int} {w:World} (h:Reads w v l) (e:jl l n=c) :
 Calls Tryz.prog 157 #[v,.string n] w fun x w'=>x=.returned (.int .i64 c)∧Kept w w':=by
 subst e;obtain⟨a,cap,rfl,h1,h2,h3⟩:=h;exact Xb a _ cap l n w h3
theorem X9 {v:Value} {l:V} {c:Bool} {w:World} (h:Reads w v l) (e:Jt l=c) :
 Calls Tryz.prog 36 #[v] w fun x w'=>x=.returned (.bool c)∧w=w':=by
 subst e;obtain⟨a,cap,rfl,h1,h2,h3⟩:=h;exact Xc a _ cap l w h3
theorem jak:(Tryz.prog.info? 152).map (fun i=>(i.zero,i.size,i.bytes))=some (some (.agg #[.string ByteArray.empty,.int .i64 0]),2,24):=by kernel_rfl
theorem Xk {l:V} {k:Nat} (h:k<l.length):l.take (k+1)=l.take k++[(nm l k,qn l k)]:=by
 rw[List.take_add_one];congr 1;have:l.getD k (ByteArray.empty,0)=l[k]:=by simp[List.getD,h]
 have e:(nm l k,qn l k)=l[k]:=by simp only[nm,qn,this]
 rw[e];simp[h]
theorem qp (a:Option Addr) (len cap:Nat) (l:V) (w:World) (hr:jw w a len l) (hlen:len≤1000000) :
 Calls Tryz.prog 45 #[.slice a len cap] w (fun e w'=>∃x,e=.returned x∧jT 152 w' w.heap.size x l∧Kept w w'):=by
 have hl:=hr.1;obtain⟨i0,hi,hz0,hz1,hz2⟩:=info_parts jak;rcases hr.form with h0 | ⟨b,off,rfl⟩
 · subst h0;have hl0:l=[]:=List.eq_nil_of_length_eq_zero hl;subst hl0;clear hr hl hi hz0 hz1 hz2;go_enter Tryz.func45,Tryz.ntmps45;go_wp2;refine wp_loop_rounds 1 ?_;rw[rounds_succ];go_wp2;go_ret;exact⟨_,rfl,jT.nil _ _ _,Kept.refl _⟩
 · have HR:=lH hr;have HL:=lH hl;have HF:=lH hr.2.2.1;clear hr hl;go_enter Tryz.func45,Tryz.ntmps45;go_wp2;go_loopw [3,4] (fun v i wr=>∃k:Nat,k≤len∧i=.int .i64 k∧jT 152 wr w.heap.size v (l.take k)∧Below w.heap.size w wr) (fun _ i _=>len-(intOf i).toNat)
   case atStart=>exact⟨0,Nat.zero_le _,rfl,jT.nil _ _ _,Below.refl _ _⟩
   case round =>
    obtain⟨k,hk,rfl,ho,hB⟩:=hrel;have HO:=lH ho;have HB:=lH hB;have HT:=lH (show (l.take k).length=k by rw[List.length_take,HL.out];omega);have HOWN:=lH (show wr.ownsRow w.heap.size 152 2 u3 k (cellsOf (l.take k)) by have:=HO.out.1;rw[HT.out] at this;exact this);by_cases hlt:k<len
    · obtain⟨hb,c1,c2⟩:=(HR.out.kept hB).cells hlt;have HI:=lH (show k<l.length by rw[HL.out];exact hlt);have hbw:b<w.heap.size:=(HR.out.cells hlt).1;have hbase:w.heap.size≤wr.heap.size:=hB.size;have HNE:=lH (show u3.ownBlock≠some b by
       intro e;have:=(HOWN.out.lt b e).1;omega)
      have HBASE:=lH (show w.heap.size≤(wr.alloc (.cells #[.string (nm l k),.int .i64 (qn l k)] 152)).drew.heap.size by simp;omega);have HBD:=lH (show Below w.heap.size w ((wr.alloc (.cells #[.string (nm l k),.int .i64 (qn l k)] 152)).drew) from HB.out.trans (Below.mono ((ja wr _).trans (Kept.drewN _ 1)) hbase));have hk1:(k:Int)<(len:Int):=by omega
      have HFK:=lH (HF.out k HI.out);clear ho hB;go_wp2_with fail
      go_region_held3 (fun W=>W.cell? ⟨b,off+k*2,none⟩=some (.string (nm l k))∧W.cell? ⟨b,off+k*2+1,none⟩=some (.int .i64 (qn l k)))
       (first
         | go_keep
         | (go_split_ands
            refine⟨?_,?_⟩
            · (refine(hgrow.cell_far ⟨b,off+k*2,none⟩ (by simp;omega) (Ne.symm HNE.out)).trans ?_;assumption)
            · (refine(hgrow.cell_far ⟨b,off+k*2+1,none⟩ (by simp;omega) (Ne.symm HNE.out)).trans ?_;assumption)))
       ((refine step_append_lies _ (by rfl) _ _ _ (by rfl) w.heap.size 152 i0 _ 2 24 Tryz.underlying45 hi hz0 hz1 hz2 rfl (by decide) u3 k (cellsOf (l.take k)) (by rfl) ((HOWN.out.alloc _).drew)
          ⟨wr.heap.size,0,none⟩ 1 1 [.string (nm l k),.int .i64 (qn l k)] (by rfl) (by rfl) (World.news_of_block (cs:=#[.string (nm l k),.int .i64 (qn l k)]) (t:=152) (fr:=(0,0)) (heap_alloc_new wr _)) (JK [(nm l k,qn l k)])
          (by decide) (by unfold maxLen;omega) (by omega) (by simp;omega) (wr.heap.size+1) (by simp) ?_;intro gg cap1 w1 hown1 hgrow hat hlt1))
      all_goals
       go_wp2;go_roundw
       case rel=>exact⟨k+1,by omega,by go_num,⟨by rw[Xk HI.out,JB,List.length_append,HT.out];exact hown1,by rw[Xk HI.out];exact HO.out.2.snoc HFK.out.1 HFK.out.2.1 HFK.out.2.2⟩,HBD.out.grown hgrow HBASE.out (fun j hj=>(HOWN.out.lt j hj).1)⟩
       case measure=>simp[intOf];omega
    · have HK:=lH (show l.take k=l by rw[List.take_of_length_le (by rw[HL.out];omega)]);clear ho hB;go_wp2;go_ret;exact⟨_,rfl,by have h:=HO.out;rw[HK.out] at h;exact h,HB.out⟩
theorem Ye:∀s:List UInt8,Op.bytesLess s s=false
 | []=>rfl
 | a::s=>by
  have:¬a<a:=UInt8.lt_irrefl a;simp[Op.bytesLess,Ye s,this]
theorem YK:∀{a b c:List UInt8},Op.bytesLess a b=true→Op.bytesLess b c=true→Op.bytesLess a c=true
 | _,_,[],_,h=>by simp[Op.bytesLess] at h
 | [],_,_::_,_,_=>by simp[Op.bytesLess]
 | x::a,[],z::c,h,_=>by simp[Op.bytesLess] at h
 | x::a,y::b,z::c,h,g=>by
  simp only[Op.bytesLess,Bool.or_eq_true,Bool.and_eq_true,decide_eq_true_eq,beq_iff_eq] at h g ⊢;rcases h with h | ⟨rfl,h⟩
  · rcases g with g | ⟨rfl,g⟩
    · exact .inl (UInt8.lt_trans h g)
    · exact .inl h
  · rcases g with g | ⟨rfl,g⟩
    · exact .inl g
    · exact .inr ⟨rfl,YK h g⟩
theorem qw:∀{a b:List UInt8},Op.bytesLess a b=false→Op.bytesLess b a=false→a=b
 | [],[],_,_=>rfl
 | [],_::_,h,_=>by simp[Op.bytesLess] at h
 | _::_,[],_,h=>by simp[Op.bytesLess] at h
 | x::a,y::b,h,g=>by
  simp only[Op.bytesLess,Bool.or_eq_false_iff,decide_eq_false_iff_not,Bool.and_eq_false_iff,beq_eq_false_iff_ne] at h g;have e:x=y:=by
   have h1:=UInt8.not_lt.1 h.1;have h2:=UInt8.not_lt.1 g.1;exact UInt8.le_antisymm h2 h1
  subst e;have h2:=h.2.resolve_left (by simp);have g2:=g.2.resolve_left (by simp);rw[qw h2 g2]
theorem jbd (s t:ByteArray):ltS s t=Op.bytesLess s.data.toList t.data.toList:=by unfold ltS;rw[Lib.toList_data,Lib.toList_data]
theorem jY {s t:ByteArray}:eqS s t=true↔s=t:=by
 unfold eqS;rw[Lib.toList_data,Lib.toList_data,beq_iff_eq];exact⟨fun h=>Go.WideShapes.bytes_inj h,fun h=>by rw[h]⟩
theorem Zw (s:ByteArray):ltS s s=false:=by rw[jbd];exact Ye _
theorem zv {s t u:ByteArray} (h:ltS s t=true) (g:ltS t u=true):ltS s u=true:=by
 rw[jbd] at *;exact YK h g
theorem Xd {s t:ByteArray} (h:ltS s t=false) (g:ltS t s=false):s=t:=by
 rw[jbd] at *;exact Go.WideShapes.bytes_inj (qw h g)
theorem Ze {s t:ByteArray} (h:ltS s t=true):s≠t:=by rintro rfl;rw[Zw] at h;cases h
theorem Xh {s t:ByteArray} (h:ltS s t=true) (g:ltS t s=true):False:=Ze (zv h g) rfl
def Gd (l:V):Prop:=(∀x ∈ l,isName x.1=true∧0<x.2∧x.2≤9223372036854775807)∧l.Pairwise (fun x y=>ltS x.1 y.1=true)
theorem Gd.nil:Gd []:=⟨fun x hx=>absurd hx (by simp),.nil⟩
theorem Gd.cons {x:ByteArray×Int} {t:V}:Gd (x::t)↔(isName x.1=true∧0<x.2∧x.2≤9223372036854775807)∧(∀y ∈ t,ltS x.1 y.1=true)∧Gd t:=by
 unfold Gd;rw[List.pairwise_cons,List.forall_mem_cons];constructor
 · rintro ⟨⟨a,b⟩,c,d⟩;exact⟨a,c,b,d⟩
 · rintro ⟨a,c,b,d⟩;exact⟨⟨a,b⟩,c,d⟩
theorem J7 (x:ByteArray×Int) (t:V):jl (x::t) x.1=x.2:=by rw[jl,if_pos (jY.2 rfl)]
theorem zM {x:ByteArray×Int} {n:ByteArray} (t:V) (h:x.1≠n):jl (x::t) n=jl t n:=by rw[jl,if_neg (fun e=>h (jY.1 e))]
theorem X0:∀{l:V} {n:ByteArray},(∀y ∈ l,y.1≠n)→jl l n=0
 | [],_,_=>rfl
 | x::t,n,h=>by rw[zM t (h x (by simp))];exact X0 fun y hy=>h y (by simp[hy])
theorem get_mem:∀{l:V} {n:ByteArray},jl l n≠0→∃y ∈ l,y.1=n
 | [],_,h=>absurd rfl h
 | x::t,n,h=>by
  by_cases e:x.1=n
  · exact⟨x,by simp,e⟩
  · rw[zM t e] at h;obtain⟨y,hy,hn⟩:=get_mem h;exact⟨y,by simp[hy],hn⟩
theorem Z6:∀{l:V} (n:ByteArray),Gd l→0≤jl l n∧jl l n≤9223372036854775807
 | [],_,_=>⟨Int.le_refl _,(by decide:(0:Int)≤9223372036854775807)⟩
 | x::t,n,h=>by
  have h':=Gd.cons.1 h;by_cases e:x.1=n
  · subst e;rw[J7];omega
  · rw[zM t e];exact Z6 n h'.2.2
theorem jbC:∀{l:V} {x:ByteArray×Int},Gd l→x ∈ l→jl l x.1=x.2
 | [],_,_,h=>absurd h (by simp)
 | y::t,x,h,hx=>by
  have h':=Gd.cons.1 h;rcases List.mem_cons.1 hx with rfl | hx
  · exact J7 _ _
  · rw[zM t (Ze (h'.2.1 x hx))];exact jbC h'.2.2 hx
theorem ja6 {l:V} {n:ByteArray} (h:∀y ∈ l,ltS n y.1=true):jl l n=0:=X0 fun y hy=>(Ze (h y hy)).symm
theorem Gd.len:∀{b r:V},Gd r→Gd b→(∀n,jl r n≠0→jl b n≠0)→r.length≤b.length
 | [],[],_,_,_=>Nat.le_refl _
 | [],x::s,hr,_,h=>by
  have:=h x.1;rw[J7] at this;have h1:=(Gd.cons.1 hr).1;exact absurd rfl (this (by omega))
 | y::t,[],_,_,_=>Nat.zero_le _
 | y::t,x::s,hr,hb,h=>by
  have hr':=Gd.cons.1 hr;have hb':=Gd.cons.1 hb;have:s.length≤t.length:=Gd.len hr'.2.2 hb'.2.2 fun n hn=>by
   obtain⟨z,hz,rfl⟩:=get_mem hn;have hlt:=hr'.2.1 z hz;have hb2:=h z.1 (by rw[zM s (Ze hlt)];exact hn);by_cases e:y.1=z.1
   · obtain⟨u,hu,hux⟩:=get_mem (h x.1 (by rw[J7];omega));rcases List.mem_cons.1 hu with rfl | hu
     · rw[←hux,e,Zw] at hlt;cases hlt
     · have:=hb'.2.1 u hu;rw[hux,e] at this;exact(Xh hlt this).elim
   · rw[zM t e] at hb2;exact hb2
  simp only[List.length_cons];omega
theorem ZW {s t:ByteArray} (h:leS s t=false):ltS t s=true:=by
 unfold leS at h;rw[Bool.or_eq_false_iff] at h
 cases e:ltS t s with
 | true=>rfl
 | false=>rw[Xd h.1 e,jY.2 rfl] at h;cases h.2
theorem JW {l:V} (h:jr l=0) (hf:zp l):Gd l:=by
 have h2:jB none l=0:=by
  unfold jr at h;split at h
  · cases h
  · exact h
 have key:∀(l:V) (p:Option ByteArray),jB p l=0→zp l→Gd l∧(∀x,p=some x→∀y ∈ l,ltS x y.1=true):=by
  intro l
  induction l with
  | nil=>intro p _ _;exact⟨Gd.nil,fun _ _ y hy=>absurd hy (by simp)⟩
  | cons x t ih =>
   intro p hc hf;rw[zp.cons] at hf;unfold jB at hc;split at hc
   · cases hc
   · rename_i n1;split at hc
     · cases hc
     · rename_i n2;split at hc
       · cases hc
       · rename_i n3;obtain⟨hg,hall⟩:=ih _ hc hf.2;have hx:=hall x.1 rfl;refine⟨Gd.cons.2 ⟨⟨by simpa using n1,by omega,hf.1.2.2⟩,hx,hg⟩,?_⟩;rintro q rfl y hy;have hq:ltS q x.1=true:=ZW (by simpa [jn] using n3);rcases List.mem_cons.1 hy with rfl | hy
         · exact hq
         · exact zv hq (hx y hy)
 exact(key l none h2 hf).1
theorem Xy {l:V} {s:ByteArray} (hg:Gd l) (h:∀y ∈ l,y.1=s∨ltS s y.1=true) :
 (zh l s).1=jl l s∧Gd (zh l s).2∧(∀y ∈ (zh l s).2,ltS s y.1=true)∧(∀n,n≠s→jl (zh l s).2 n=jl l n)∧(∀m,(∀y ∈ l,ltS m y.1=true)→∀y ∈ (zh l s).2,ltS m y.1=true):=by
 cases l with
 | nil=>exact⟨rfl,hg,fun y hy=>absurd hy (by simp[zh]),fun _ _=>rfl,fun _ _ y hy=>absurd hy (by simp[zh])⟩
 | cons x t =>
  have hg':=Gd.cons.1 hg;rw[j5];by_cases e:x.1=s
  · rw[if_pos (jY.2 e)];subst e;exact⟨(J7 x t).symm,hg'.2.2,hg'.2.1,fun n hn=>(zM t (Ne.symm hn)).symm,fun m hm y hy=>hm y (by simp[hy])⟩
  · rw[if_neg (fun c=>e (jY.1 c))];have hx:ltS s x.1=true:=(h x (by simp)).resolve_left e;have hall:∀y ∈ x::t,ltS s y.1=true:=fun y hy=>by
     rcases List.mem_cons.1 hy with rfl | hy
     · exact hx
     · exact zv hx (hg'.2.1 y hy)
    exact⟨(ja6 hall).symm,hg,hall,fun _ _=>rfl,fun m hm=>hm⟩
theorem XK {la lb:V} (ha:Gd la) (hb:Gd lb) (h:0<la.length+lb.length) :
 isName (jN la lb)=true∧(∀y ∈ la,y.1=jN la lb∨ltS (jN la lb) y.1=true)∧(∀y ∈ lb,y.1=jN la lb∨ltS (jN la lb) y.1=true) ∧
  (∀m,(∀y ∈ la,ltS m y.1=true)→(∀y ∈ lb,ltS m y.1=true)→ltS m (jN la lb)=true):=by
 have own:∀{x:ByteArray×Int} {t:V},Gd (x::t)→∀y ∈ x::t,y.1=x.1∨ltS x.1 y.1=true:=fun {x t} hg y hy=>by
  rcases List.mem_cons.1 hy with rfl | hy
  · exact .inl rfl
  · exact .inr ((Gd.cons.1 hg).2.1 y hy)
 cases la with
 | nil =>
  cases lb with
  | nil=>simp at h
  | cons y t=>exact⟨(Gd.cons.1 hb).1.1,fun z hz=>absurd hz (by simp),own hb,fun m _ hm=>hm y (by simp)⟩
 | cons x s =>
  cases lb with
  | nil=>exact⟨(Gd.cons.1 ha).1.1,own ha,fun z hz=>absurd hz (by simp),fun m hm _=>hm x (by simp)⟩
  | cons y t =>
   rw[zF];by_cases e:ltS y.1 x.1=true
   · rw[if_pos e];refine⟨(Gd.cons.1 hb).1.1,fun z hz=>.inr ?_,own hb,fun m _ hm=>hm y (by simp)⟩;rcases own ha z hz with hz | hz
     · rw[hz];exact e
     · exact zv e hz
   · rw[if_neg e];refine⟨(Gd.cons.1 ha).1.1,own ha,fun z hz=>?_,fun m hm _=>hm x (by simp)⟩;have e':ltS y.1 x.1=false:=by simpa using e
     have hxy:y.1=x.1∨ltS x.1 y.1=true:=by
      cases e2:ltS x.1 y.1 with
      | true=>exact .inr rfl
      | false=>exact .inl (Xd e' e2)
     rcases own hb z hz with hz | hz
     · rw[hz];exact hxy
     · rcases hxy with hxy | hxy
       · rw[←hxy];exact .inr hz
       · exact .inr (zv hxy hz)
theorem Reads.fine {v:Value} {l:V} {w:World} (h:Reads w v l):zp l:=by
 obtain⟨a,cap,rfl,h1,h2,h3⟩:=h;exact h3.2.2.1
open Go.ChangeShapes Go.WideShapes Go.ChangeAt Go.RowKit Go.Deep
theorem jbE:Tryz.prog.cellsOf 121=2:=by kernel_rfl
theorem zG:Tryz.prog.cellsOf 9=1:=by kernel_rfl
theorem Zr:Tryz.prog.cellsOf 2=1:=by kernel_rfl
theorem Y3 {H:Type} {enc:TypeId×Value→H} {w:World} {base fuel:Nat} {sp:Nat→Bool} {held:Bool} {cs:List Value} {x:DataW H×List MemPlace} (h:DataW.trod enc Tryz.prog w base sp held fuel 121 cs=some x) :
 ∃(s:ByteArray) (n:Int),cs=[.string s,.int .i64 n]∧s.size≤maxLen∧-9223372036854775808≤n∧n≤9223372036854775807:=by
 obtain⟨ys,m,-,-,hlen,hyl,hf⟩:=DataW.trod_struct Tryz.underlying121 h;rw[jbE] at hlen
 match cs,hlen with
 | [c0,c1],_ =>
  have h0:DataW.trod enc Tryz.prog w base sp held m 9 (([c0,c1].drop 0).take (Tryz.prog.cellsOf 9))=ys[0]?:=hf 0 _ rfl;have h1:DataW.trod enc Tryz.prog w base sp held m 2 (([c0,c1].drop 1).take (Tryz.prog.cellsOf 2))=ys[1]?:=hf 1 _ rfl;rw[zG] at h0;rw[Zr] at h1;obtain⟨y0,e0⟩:∃y,ys[0]?=some y:=⟨_,List.getElem?_eq_getElem (by rw[hyl];decide)⟩
  obtain⟨y1,e1⟩:∃y,ys[1]?=some y:=⟨_,List.getElem?_eq_getElem (by rw[hyl];decide)⟩
  rw[e0] at h0;rw[e1] at h1;obtain⟨s,q0,-,hs⟩:=DataW.trod_string Tryz.underlying9 h0;obtain⟨n,q1,-,hn⟩:=DataW.trod_int Tryz.underlying2 h1;simp only[List.drop_zero,List.take_succ_cons,List.take_zero,List.cons.injEq,and_true,List.drop_succ_cons] at q0 q1;subst q0;subst q1;have:=bounds_i64 hn;exact⟨s,n,rfl,hs,this.1,this.2⟩
theorem jau {l m:V} {i:Nat} (h:i<l.length):nm (l++m) i=nm l i∧qn (l++m) i=qn l i:=by
 unfold nm qn;simp[List.getD,List.getElem?_append_left h]
theorem jaE (l:V) (s:ByteArray) (n:Int):nm (l++[(s,n)]) l.length=s∧qn (l++[(s,n)]) l.length=n:=by
 unfold nm qn;simp[List.getD]
theorem jV {H:Type} {enc:TypeId×Value→H} {w:World} {base fuel:Nat} {sp:Nat→Bool} {held:Bool} {v:Value} {x:DataW H×List MemPlace} (h:DataW.trod enc Tryz.prog w base sp held fuel 32 [v]=some x) :
 ∃l,Reads w v l:=by
 rcases open_slice Tryz.underlying32 h with ⟨hcs,-⟩ | ⟨a,len,cap,m,n,D,Pl,hcs,hb,hl,hm,hmm,hx,hi⟩
 · cases hcs;exact⟨[],Reads.nil w⟩
 · cases hcs
   have hlm:len≤m:=by rw[hmm];split<;>omega
   have key:∀k,k≤len→∃l:V,l.length=k∧∀i,i<k→((nm l i).size≤maxLen∧-9223372036854775808≤qn l i∧qn l i≤9223372036854775807) ∧
    w.cell? ((a.add (i*2)).add 0)=some (.string (nm l i))∧w.cell? ((a.add (i*2)).add 1)=some (.int .i64 (qn l i)):=by
    intro k
    induction k with
    | zero=>exact fun _=>⟨[],rfl,fun i hi=>absurd hi (by omega)⟩
    | succ k ih =>
     intro hk;obtain⟨l,e,hall⟩:=ih (by omega);obtain⟨cs',hc,ht'⟩:=hi k (by omega);obtain⟨s,q,rfl,b1,b2,b3⟩:=Y3 ht';rw[jbE] at hc;obtain⟨-,-,hat⟩:=World.cells?_some hc;refine⟨l++[(s,q)],by simp[e],fun i hi=>?_⟩;by_cases e2:i=k
     · subst e2;subst e;rw[(jaE l s q).1,(jaE l s q).2];exact⟨⟨b1,b2,b3⟩,hat 0 (by decide),hat 1 (by decide)⟩
     · rw[(jau (by omega)).1,(jau (by omega)).2];exact hall i (by omega)
   obtain⟨l,e,hall⟩:=key len (Nat.le_refl _);subst e;refine⟨l,_,cap,rfl,hl,hm,rfl,Nat.le_trans hl hm,fun i hi=>(hall i hi).1,?_⟩;by_cases h0:l.length=0
   · exact .inl h0
   · obtain⟨b,off,spot⟩:=a;have hc:=(hall 0 (by omega)).2.1;have hspot:spot=none:=by simpa [Addr.add] using World.cell?_spot hc
     subst hspot;have hcell:∀i,i<l.length→w.cell? ⟨b,off+i*2,none⟩=some (.string (nm l i))∧w.cell? ⟨b,off+i*2+1,none⟩=some (.int .i64 (qn l i)):=fun i hi=>by
      have c:=(hall i hi).2;by_cases hi0:i=0
      · subst hi0;simpa [Addr.add] using c
      · have h2:¬i*2=0:=by omega
        simpa [Addr.add,h2] using c
     exact .inr ⟨b,off,rfl,World.block_lt_of_cell? _ _ (hcell 0 (by omega)).1,hcell⟩
end Go.Proofs.YtgfoenfaohhjcaaGreat.Vec
namespace Go.Proofs.YtgfoenfaohhjcaaGreat
open Go.RowKit
abbrev PL:=List (ByteArray×ByteArray)
abbrev TL:=List (Int×ByteArray×ByteArray)
def jn (prev:Option ByteArray) (s:ByteArray):Bool:=match prev with | none=>false | some p=>leS s p
def JS (l:PL) (k:Nat):Option ByteArray:=if k=0 then none else (l[k-1]?).map (·.1)
def j9:Option ByteArray→PL→Int
 | _,[]=>0
 | prev,x::t=>if (isName x.1&&isName x.2)=false then 3 else if jn prev x.1=true then 13 else j9 (some x.1) t
def JQ (l:PL):Int:=if 8<l.length then 4 else j9 none l
theorem Zi {l:PL} {k:Nat} (h:k=0) (s:ByteArray):jn (JS l k) s=false:=by unfold JS;rw[if_pos h];rfl
theorem Zk {l:PL} {k:Nat} {x y:ByteArray} (h:¬k=0) (hx:l[k-1]?=some (x,y)) (s:ByteArray):jn (JS l k) s=leS s x:=by unfold JS;rw[if_neg h,hx];rfl
theorem Zc {l:PL} {k:Nat} {x y:ByteArray} (hx:l[k]?=some (x,y)):JS l (k+1)=some x:=by unfold JS;rw[if_neg (by omega),Nat.add_sub_cancel,hx];rfl
theorem ZF {p:Option ByteArray} {x y:ByteArray} {t:PL} (n:(isName x&&isName y)=false):j9 p ((x,y)::t)=3:=by rw[j9,if_pos n]
theorem Z7 {p:Option ByteArray} {x y:ByteArray} {t:PL} (n1:isName x=true) (n2:isName y=true) (b:jn p x=true):j9 p ((x,y)::t)=13:=by
 rw[j9,if_neg (by dsimp only;rw[n1,n2];decide),if_pos b]
theorem JY {p:Option ByteArray} {x y:ByteArray} {t:PL} (n1:isName x=true) (n2:isName y=true) (b:jn p x=false):j9 p ((x,y)::t)=j9 (some x) t:=by
 rw[j9,if_neg (by dsimp only;rw[n1,n2];decide),if_neg (by dsimp only;rw[b];decide)]
def JC (t:Int×ByteArray×ByteArray):Int :=
 if t.1=1∨t.1=2 then (if (isName t.2.1&&isName t.2.2)=true then 0 else 3)
 else if t.1=3∨t.1=4 then (if (isName t.2.1&&eqS t.2.2 ByteArray.empty)=true then 0 else 3)
 else 1
def JR:TL→Int
 | []=>0
 | t::r=>if JC t≠0 then JC t else JR r
def JZ (l:TL):Int:=if 8<l.length then 4 else JR l
theorem Jk {o:Int} {x y:ByteArray}:JC (o,x,y)=if o=1∨o=2 then (if (isName x&&isName y)=true then 0 else 3)
 else if o=3∨o=4 then (if (isName x&&eqS y ByteArray.empty)=true then 0 else 3) else 1:=rfl
theorem jbg (t:Int×ByteArray×ByteArray) (r:TL):JR (t::r)=if JC t≠0 then JC t else JR r:=rfl
def getS:PL→ByteArray→Option ByteArray
 | [],_=>none
 | x::t,n=>if eqS x.1 n=true then some x.2 else getS t n
def Yn (s:PL) (n:ByteArray):ByteArray:=(getS s n).getD ByteArray.empty
def Ym (s:PL) (n:ByteArray):Bool:=(getS s n).isSome
theorem jbp (x y:ByteArray) (t:PL) (n:ByteArray):getS ((x,y)::t) n=if eqS x n=true then some y else getS t n:=rfl
theorem Y9 {s:PL} {n:ByteArray} {o:Option ByteArray} (h:getS s n=o):Ending.returned (.tuple #[.string (o.getD ByteArray.empty),.bool o.isSome])=.returned (.tuple #[.string (Yn s n),.bool (Ym s n)]):=by
 unfold Yn Ym;rw[h]
theorem ZM {s:PL} {n v:ByteArray} (hf:∀x ∈ s,jm.fine x) (h:getS s n=some v):v.size≤maxLen:=by
 induction s with
 | nil=>cases h
 | cons x t ih =>
  rw[getS] at h;split at h
  · injection h with h;subst h;exact(hf x (by simp)).2
  · exact ih (fun y hy=>hf y (by simp[hy])) h
theorem Xb (a:Option Addr) (len cap:Nat) (l:PL) (n:ByteArray) (w:World) (hr:jh jm w a len l) :
 Calls Tryz.prog 60 #[.slice a len cap,.string n] w fun e w'=>e=.returned (.tuple #[.string (Yn l n),.bool (Ym l n)])∧Kept w w':=by
 have hl:=hr.1;have hm:=hr.2.1;unfold maxLen at hm;rcases hr.form with h0 | ⟨b,off,rfl⟩
 · subst h0;have HE:=lH (show getS l n=none by rw[List.eq_nil_of_length_eq_zero hl];rfl);clear hr hl;go_enter Tryz.func60,Tryz.ntmps60;go_wp2;refine wp_loop_rounds 1 ?_;rw[rounds_succ];go_wp2;go_ret2
   exact⟨Y9 HE.out,Kept.refl _⟩
 · have HR:=lH hr;have HL:=lH hl;clear hr hl;go_enter Tryz.func60,Tryz.ntmps60;go_wp2;go_loopw [10] (fun i wr=>∃k:Nat,k≤len∧i=.int .i64 k∧getS (l.drop k) n=getS l n∧Kept w wr) (fun i _=>len-(intOf i).toNat)
   case atStart=>exact⟨0,Nat.zero_le _,rfl,rfl,Kept.refl _⟩
   case round =>
    obtain⟨k,hk,rfl,hrest,hK⟩:=hrel;by_cases hlt:k<len
    · obtain⟨x,y,hx,hd,hb,hz,hz2,c1,c2⟩:=(HR.out.kept hK).pair hlt;have HK:=lH hK;have HT:=lH (hrest.symm.trans ((congrArg (fun z=>getS z n) hd).trans (jbp _ _ _ _)));clear hK hrest hx hd;by_cases e:eqS x n=true
      · have E:=lH e;have e':(x.toList==n.toList)=true:=e;clear e;go_wp2;go_ret2
        exact⟨Y9 (HT.out.trans (if_pos E.out)),HK.out.trans (ja _ _)⟩
      · have E:=lH e;have e':(x.toList==n.toList)=false:=by unfold eqS at e;simpa using e
        clear e;go_wp2;go_roundw
        case rel=>exact⟨k+1,by omega,by go_num,(HT.out.trans (if_neg E.out)).symm,HK.out.trans (ja _ _)⟩
        case measure=>simp[intOf];omega
    · have HK:=lH hK;have HS:=lH (hrest.symm.trans (congrArg (fun z=>getS z n) (zA (by rw[HL.out];exact hlt))));clear hK hrest;go_wp2;go_ret2
      exact⟨Y9 (HS.out.trans rfl),HK.out⟩
abbrev NT:=ByteArray×ByteArray×Bool
abbrev NL:=List NT
theorem Y2 (x y:ByteArray) (b:Bool) (u:Value) (h:u ∈ [Value.string x,Value.string y,Value.bool b]):u.oneCell'=true:=by
 have e:u=Value.string x∨u=Value.string y∨u=Value.bool b:=by simpa using h
 rcases e with e | e | e<;>rw[e]<;>rfl
def jk:Lay NT:={ m:=3,cs:=fun x=>[.string x.1,.string x.2.1,.bool x.2.2],fine:=fun x=>x.1.size≤maxLen∧x.2.1.size≤maxLen,len:=fun _=>rfl,one:=fun x=>Y2 x.1 x.2.1 x.2.2,pos:=by decide }
theorem jh.tri {w:World} {b off len:Nat} {l:NL} {k:Nat} (h:jh jk w (some ⟨b,off,none⟩) len l) (hk:k<len) :
 ∃(x y:ByteArray) (m:Bool),l[k]?=some (x,y,m)∧l.drop k=(x,y,m)::l.drop (k+1)∧b<w.heap.size∧x.size≤maxLen∧y.size≤maxLen ∧
  w.cell? ⟨b,off+k*3,none⟩=some (.string x)∧w.cell? ⟨b,off+k*3+1,none⟩=some (.string y)∧w.cell? ⟨b,off+k*3+2,none⟩=some (.bool m):=by
 obtain⟨⟨x,y,m⟩,h1,h2,h3,h4,h5⟩:=h.cells hk;exact⟨x,y,m,h1,h2,h3,h4.1,h4.2,h5 0 _ rfl,h5 1 _ rfl,h5 2 _ rfl⟩
def Jo (t z:NT):Bool:=eqS z.1 t.1&&eqS z.2.1 t.2.1
def zL:NL→NL→Int
 | _,[]=>0
 | pre,x::t=>if (isName x.1&&isName x.2.1)=false then 3 else if pre.any (Jo x)=true then 6 else zL (pre++[x]) t
def Zt (l:NL):Int:=if 8<l.length then 4 else zL [] l
theorem Xl {pre:NL} {x:NT} {t:NL} (n:(isName x.1&&isName x.2.1)=false):zL pre (x::t)=3:=by rw[zL,if_pos n]
theorem jaP {pre:NL} {x:NT} {t:NL} (n1:isName x.1=true) (n2:isName x.2.1=true) (b:pre.any (Jo x)=true):zL pre (x::t)=6:=by
 rw[zL,if_neg (by rw[n1,n2];decide),if_pos b]
theorem jbR {pre:NL} {x:NT} {t:NL} (n1:isName x.1=true) (n2:isName x.2.1=true) (b:pre.any (Jo x)=false):zL pre (x::t)=zL (pre++[x]) t:=by
 rw[zL,if_neg (by rw[n1,n2];decide),if_neg (by rw[b];decide)]
def zD (s:ByteArray):Bool:=eqS s ByteArray.empty
def zc (x:NT):Bool:=(zD x.1||isName x.1)&&(if x.2.2=true then zD x.2.1 else isName x.2.1)
def Ji (l:NL):Int:=if 8<l.length then 4 else if l.all zc=true then 0 else 3
theorem zQ {s:ByteArray}:zD s=(s.toList==([]:List UInt8)):=by
 unfold zD eqS;rw[show ByteArray.empty.toList=([]:List UInt8) from by rw[Lib.toList_data];rfl]
open Go.RowKit Go.Shelf
attribute [local go_sem] Oper.semAt_some
end Go.Proofs.YtgfoenfaohhjcaaGreat
namespace Go.Proofs.YtgfoenfaohhjcaaGreat
open Go.RowKit Go.Shelf
attribute [local go_sem] Oper.semAt_some
end Go.Proofs.YtgfoenfaohhjcaaGreat
namespace Go.Proofs.YtgfoenfaohhjcaaGreat
open Go.RowKit
theorem jaN {v:Value} {l:PL} {n x:ByteArray} {b:Bool} {w:World} (h:Reads jm w v l) (hx:Yn l n=x) (hb:Ym l n=b) :
 Calls Tryz.prog 60 #[v,.string n] w (Say (.tuple #[.string x,.bool b]) w):=by
 obtain⟨a,cap,rfl,_,_,hr⟩:=h;exact(Xb a _ cap l n w hr).mono fun e w' ⟨he,k⟩=>⟨by rw[he,hx,hb],k⟩
def JD (x:ByteArray×ByteArray):Bool:=decide (x.1.size≤50)&&decide (x.2.size≤50)
def JG (x:Int×ByteArray×ByteArray):Bool:=decide (x.2.1.size≤50)&&decide (x.2.2.size≤50)
def Jh (l:PL):Bool:=decide (l.length≤20)&&l.all JD
def Jg (l:TL):Bool:=decide (l.length≤20)&&l.all JG
theorem Xc (a:Option Addr) (len cap:Nat) (l:PL) (w:World) (hr:jh jm w a len l) :
 Calls Tryz.prog 37 #[.slice a len cap] w fun e w'=>e=.returned (.bool (Jh l))∧w=w':=by
 have hl:=hr.1;have hm:=hr.2.1;unfold maxLen at hm;by_cases h20:len≤20
 · have HV:=lH (show Jh l=l.all JD by unfold Jh;rw[decide_eq_true (by omega)];rfl);rcases hr.form with h0 | ⟨b,off,rfl⟩
   · subst h0;have HE:=lH (show Jh l=true by rw[HV.out,List.eq_nil_of_length_eq_zero hl];rfl);clear hr hl;go_enter Tryz.func37,Tryz.ntmps37;go_wp2;refine wp_loop_rounds 1 ?_;rw[rounds_succ];go_wp2;go_ret;exact⟨jd HE.out.symm,rfl⟩
   · have HR:=lH hr;have HL:=lH hl;clear hr hl;go_enter Tryz.func37,Tryz.ntmps37;go_wp2;go_loop [3] (fun i=>∃k:Nat,k≤len∧i=.int .i64 k∧(l.drop k).all JD=l.all JD) (fun i=>len-(intOf i).toNat)
     case atStart=>exact⟨0,Nat.zero_le _,rfl,rfl⟩
     case round =>
      obtain⟨k,hk,rfl,hrest⟩:=hrel;by_cases hlt:k<len
      · obtain⟨x,y,hx,hd,hb,hz,hz2,c1,c2⟩:=HR.out.pair hlt;have HT:=lH (hrest.symm.trans ((congrArg (fun z=>z.all JD) hd).trans (all_cons _ _ _)));clear hrest hx hd;unfold maxLen at hz hz2;by_cases e:x.size≤50
        · by_cases e2:y.size≤50
          · have E:=lH (show JD (x,y)=true by unfold JD;rw[decide_eq_true e,decide_eq_true e2];rfl);go_wp2;go_round
            case rel=>exact⟨k+1,by omega,by go_num,(HT.out.trans (by rw[E.out];exact Bool.true_and _)).symm⟩
            case measure=>simp[intOf];omega
          · have E:=lH (show JD (x,y)=false by unfold JD;rw[decide_eq_false e2];exact Bool.and_false _);have e2':50<y.size:=by omega
            clear e2;go_wp2;go_ret;exact⟨jd (HV.out.trans (HT.out.trans (by rw[E.out];exact Bool.false_and _))).symm,rfl⟩
        · have E:=lH (show JD (x,y)=false by unfold JD;rw[decide_eq_false e];exact Bool.false_and _);have e':50<x.size:=by omega
          clear e;go_wp2;go_ret;exact⟨jd (HV.out.trans (HT.out.trans (by rw[E.out];exact Bool.false_and _))).symm,rfl⟩
      · have HS:=lH ((HV.out.trans hrest.symm).trans (congrArg (fun z=>z.all JD) (zA (by rw[HL.out];exact hlt))));clear hrest;go_wp2;go_ret;exact⟨jd (HS.out.trans rfl).symm,rfl⟩
 · have HV:=lH (show Jh l=false by unfold Jh;rw[decide_eq_false (by omega)];rfl);have h9:20<len:=by omega
   clear h20 hr hl;go_enter Tryz.func37,Tryz.ntmps37;go_wp2;go_ret;exact⟨jd HV.out.symm,rfl⟩
theorem jba (a:Option Addr) (len cap:Nat) (l:TL) (w:World) (hr:jh ju w a len l) :
 Calls Tryz.prog 38 #[.slice a len cap] w fun e w'=>e=.returned (.bool (Jg l))∧w=w':=by
 have hl:=hr.1;have hm:=hr.2.1;unfold maxLen at hm;by_cases h20:len≤20
 · have HV:=lH (show Jg l=l.all JG by unfold Jg;rw[decide_eq_true (by omega)];rfl);rcases hr.form with h0 | ⟨b,off,rfl⟩
   · subst h0;have HE:=lH (show Jg l=true by rw[HV.out,List.eq_nil_of_length_eq_zero hl];rfl);clear hr hl;go_enter Tryz.func38,Tryz.ntmps38;go_wp2;refine wp_loop_rounds 1 ?_;rw[rounds_succ];go_wp2;go_ret;exact⟨jd HE.out.symm,rfl⟩
   · have HR:=lH hr;have HL:=lH hl;clear hr hl;go_enter Tryz.func38,Tryz.ntmps38;go_wp2;go_loop [3] (fun i=>∃k:Nat,k≤len∧i=.int .i64 k∧(l.drop k).all JG=l.all JG) (fun i=>len-(intOf i).toNat)
     case atStart=>exact⟨0,Nat.zero_le _,rfl,rfl⟩
     case round =>
      obtain⟨k,hk,rfl,hrest⟩:=hrel;by_cases hlt:k<len
      · obtain⟨o,x,y,hx,hd,hb,ho,hz,hz2,c0,c1,c2⟩:=HR.out.term hlt;have HT:=lH (hrest.symm.trans ((congrArg (fun z=>z.all JG) hd).trans (all_cons _ _ _)));clear hrest hx hd;unfold maxLen at hz hz2;by_cases e:x.size≤50
        · by_cases e2:y.size≤50
          · have E:=lH (show JG (o,x,y)=true by unfold JG;rw[decide_eq_true e,decide_eq_true e2];rfl);go_wp2;go_round
            case rel=>exact⟨k+1,by omega,by go_num,(HT.out.trans (by rw[E.out];exact Bool.true_and _)).symm⟩
            case measure=>simp[intOf];omega
          · have E:=lH (show JG (o,x,y)=false by unfold JG;rw[decide_eq_false e2];exact Bool.and_false _);have e2':50<y.size:=by omega
            clear e2;go_wp2;go_ret;exact⟨jd (HV.out.trans (HT.out.trans (by rw[E.out];exact Bool.false_and _))).symm,rfl⟩
        · have E:=lH (show JG (o,x,y)=false by unfold JG;rw[decide_eq_false e];exact Bool.false_and _);have e':50<x.size:=by omega
          clear e;go_wp2;go_ret;exact⟨jd (HV.out.trans (HT.out.trans (by rw[E.out];exact Bool.false_and _))).symm,rfl⟩
      · have HS:=lH ((HV.out.trans hrest.symm).trans (congrArg (fun z=>z.all JG) (zA (by rw[HL.out];exact hlt))));clear hrest;go_wp2;go_ret;exact⟨jd (HS.out.trans rfl).symm,rfl⟩
 · have HV:=lH (show Jg l=false by unfold Jg;rw[decide_eq_false (by omega)];rfl);have h9:20<len:=by omega
   clear h20 hr hl;go_enter Tryz.func38,Tryz.ntmps38;go_wp2;go_ret;exact⟨jd HV.out.symm,rfl⟩
theorem Yy (a:Option Addr) (len cap:Nat) (l:PL) (w:World) (hr:jh jm w a len l) :
 Calls Tryz.prog 42 #[.slice a len cap] w fun e w'=>e=.returned (.int .i64 (JQ l))∧Kept w w':=by
 have hl:=hr.1;have hm:=hr.2.1;unfold maxLen at hm;by_cases h8:len≤8
 · have HV:=lH (show JQ l=j9 none l by unfold JQ;rw[if_neg (by omega)]);rcases hr.form with h0 | ⟨b,off,rfl⟩
   · subst h0;have HE:=lH (show JQ l=0 by rw[HV.out];rw[List.eq_nil_of_length_eq_zero hl];rfl);clear hr hl;go_enter Tryz.func42,Tryz.ntmps42;go_wp2;refine wp_loop_rounds 1 ?_;rw[rounds_succ];go_wp2;go_ret;exact⟨jb HE.out.symm,Kept.refl _⟩
   · have HR:=lH hr;have HL:=lH hl;clear hr hl;go_enter Tryz.func42,Tryz.ntmps42;go_wp2;go_loopw [3] (fun i wr=>∃k:Nat,k≤len∧i=.int .i64 k∧j9 (JS l k) (l.drop k)=j9 none l∧Kept w wr) (fun i _=>len-(intOf i).toNat)
     case atStart=>exact⟨0,Nat.zero_le _,rfl,rfl,Kept.refl _⟩
     case round =>
      obtain⟨k,hk,rfl,hrest,hK⟩:=hrel;by_cases hlt:k<len
      · obtain⟨x,y,hx,hd,hb,hz,hz2,c1,c2⟩:=(HR.out.kept hK).pair hlt;have HX:=lH hx;have HK:=lH hK;have HT:=lH (hrest.symm.trans (congrArg (j9 (JS l k)) hd));have HS:=lH (HV.out.trans HT.out);clear hK hrest hx hd;by_cases n1:isName x=true
        · by_cases n2:isName y=true
          · have N1:=lH n1;have N2:=lH n2;by_cases h0:k=0
            · have hd:decide (0<k)=false:=by subst h0;decide
              have HP:=lH (Zi (l:=l) h0 x);clear h0;go_wp2_with (go_at_call 40;refine(jf _ _ (by assumption)).mono ?_;rintro e w' ⟨rfl,rfl⟩)
              go_quiet (fail)
              go_wp2;go_roundw
              case rel=>exact⟨k+1,by omega,by go_num,by rw[Zc HX.out];exact(JY N1.out N2.out HP.out).symm.trans HT.out.symm,HK.out.trans (Kept.drewN _ _)⟩
              case measure=>simp[intOf];omega
            · have hd:decide (0<k)=true:=by simp;omega
              have g1:0≤(k:Int)-1:=by omega
              have g2:(k:Int)-1<(len:Int):=by omega
              have g3:((k:Int)-1).toNat=k-1:=by omega
              obtain⟨px,py,hpx,_,_,_,_,d1,d2⟩:=(HR.out.kept HK.out).pair (show k-1<len by omega);have HP:=lH (Zk (l:=l) h0 hpx x);clear hpx;by_cases n3:leS x px=true
              · have n3':(Op.bytesLess x.toList px.toList||x.toList==px.toList)=true:=n3;have N3:=lH n3;clear n3;go_wp2_with (go_at_call 40;refine(jf _ _ (by assumption)).mono ?_;rintro e w' ⟨rfl,rfl⟩)
                go_quiet (fail)
                go_wp2;go_ret;exact⟨jb (HS.out.trans (Z7 N1.out N2.out (HP.out.trans N3.out))).symm,HK.out.trans (Kept.drewN _ _)⟩
              · have n3:leS x px=false:=by simpa using n3
                have n3':(Op.bytesLess x.toList px.toList||x.toList==px.toList)=false:=n3;have N3:=lH n3;clear n3;go_wp2_with (go_at_call 40;refine(jf _ _ (by assumption)).mono ?_;rintro e w' ⟨rfl,rfl⟩)
                go_quiet (fail)
                go_wp2;go_roundw
                case rel=>exact⟨k+1,by omega,by go_num,by rw[Zc HX.out];exact(JY N1.out N2.out (HP.out.trans N3.out)).symm.trans HT.out.symm,HK.out.trans (Kept.drewN _ _)⟩
                case measure=>simp[intOf];omega
          · have n2:isName y=false:=by simpa using n2
            have N:=lH (show (isName x&&isName y)=false by rw[n2,Bool.and_false]);go_wp2_with (go_at_call 40;refine(jf _ _ (by assumption)).mono ?_;rintro e w' ⟨rfl,rfl⟩)
            go_ret;exact⟨jb (HS.out.trans (ZF N.out)).symm,HK.out⟩
        · have n1:isName x=false:=by simpa using n1
          have N:=lH (show (isName x&&isName y)=false by rw[n1,Bool.false_and]);go_wp2_with (go_at_call 40;refine(jf x _ hz).mono ?_;rintro e w' ⟨rfl,rfl⟩)
          go_ret;exact⟨jb (HS.out.trans (ZF N.out)).symm,HK.out⟩
      · have HK:=lH hK;have HS:=lH ((HV.out.trans hrest.symm).trans (congrArg (j9 (JS l k)) (zA (by rw[HL.out];exact hlt))));clear hK hrest;go_wp2;go_ret;exact⟨jb (HS.out.trans rfl).symm,HK.out⟩
 · have HV:=lH (show JQ l=4 by unfold JQ;rw[if_pos (by omega)]);have h9:8<len:=by omega
   clear h8 hr hl;go_enter Tryz.func42,Tryz.ntmps42;go_wp2;go_ret;exact⟨jb HV.out.symm,Kept.refl _⟩
theorem YY (a:Option Addr) (len cap:Nat) (l:TL) (w:World) (hr:jh ju w a len l) :
 Calls Tryz.prog 43 #[.slice a len cap] w fun e w'=>e=.returned (.int .i64 (JZ l))∧Kept w w':=by
 have hl:=hr.1;have hm:=hr.2.1;unfold maxLen at hm;by_cases h8:len≤8
 · have HV:=lH (show JZ l=JR l by unfold JZ;rw[if_neg (by omega)]);rcases hr.form with h0 | ⟨b,off,rfl⟩
   · subst h0;have HE:=lH (show JZ l=0 by rw[HV.out];rw[List.eq_nil_of_length_eq_zero hl];rfl);clear hr hl;go_enter Tryz.func43,Tryz.ntmps43;go_wp2;refine wp_loop_rounds 1 ?_;rw[rounds_succ];go_wp2;go_ret;exact⟨jb HE.out.symm,Kept.refl _⟩
   · have HR:=lH hr;have HL:=lH hl;clear hr hl;go_enter Tryz.func43,Tryz.ntmps43;go_wp2;go_loopw [3] (fun i wr=>∃k:Nat,k≤len∧i=.int .i64 k∧JR (l.drop k)=JR l∧Kept w wr) (fun i _=>len-(intOf i).toNat)
     case atStart=>exact⟨0,Nat.zero_le _,rfl,rfl,Kept.refl _⟩
     case round =>
      obtain⟨k,hk,rfl,hrest,hK⟩:=hrel;by_cases hlt:k<len
      · obtain⟨o,x,y,hx,hd,hb,ho,hz,hz2,c1,c2,c3⟩:=(HR.out.kept hK).term hlt;have HK:=lH hK;have HT:=lH (hrest.symm.trans ((congrArg JR hd).trans (jbg _ _)));have HS:=lH (HV.out.trans HT.out);clear hK hrest hx hd;by_cases g1:o<1
        · have N:=lH (show JC (o,x,y)=1 by rw[Jk,if_neg (by omega),if_neg (by omega)]);go_wp2_with (go_at_call 40;refine(jf _ _ (by assumption)).mono ?_;rintro e w' ⟨rfl,rfl⟩)
          go_ret;exact⟨jb (HS.out.trans ((if_pos (by rw[N.out];decide)).trans N.out)).symm,HK.out.trans (ja _ _)⟩
        · by_cases g4:4<o
          · have g1':¬o<1:=g1;have N:=lH (show JC (o,x,y)=1 by rw[Jk,if_neg (by omega),if_neg (by omega)]);go_wp2_with (go_at_call 40;refine(jf _ _ (by assumption)).mono ?_;rintro e w' ⟨rfl,rfl⟩)
            go_ret;exact⟨jb (HS.out.trans ((if_pos (by rw[N.out];decide)).trans N.out)).symm,HK.out.trans (ja _ _)⟩
          · have hcase:(o=1∨o=2)∨(o=3∨o=4):=by omega
            clear g1 g4;rcases hcase with hcase | hcase
            · have hc:=hcase;by_cases n1:isName x=true
              · by_cases n2:isName y=true
                · have NN:=lH (show JC (o,x,y)=0 by rw[Jk,if_pos hc,if_pos (by rw[n1,n2];rfl)]);clear hc;rcases hcase with rfl | rfl
                  · have N:=lH (NN.out);go_wp2_with (go_at_call 40;refine(jf _ _ (by assumption)).mono ?_;rintro e w' ⟨rfl,rfl⟩)
                    go_roundw
                    case rel=>exact⟨k+1,by omega,by go_num,(HT.out.trans (if_neg (by rw[N.out];decide))).symm,HK.out.trans (ja _ _)⟩
                    case measure=>simp[intOf];omega
                  · have N:=lH (NN.out);go_wp2_with (go_at_call 40;refine(jf _ _ (by assumption)).mono ?_;rintro e w' ⟨rfl,rfl⟩)
                    go_roundw
                    case rel=>exact⟨k+1,by omega,by go_num,(HT.out.trans (if_neg (by rw[N.out];decide))).symm,HK.out.trans (ja _ _)⟩
                    case measure=>simp[intOf];omega
                · have n2:isName y=false:=by simpa using n2
                  have NN:=lH (show JC (o,x,y)=3 by rw[Jk,if_pos hc,if_neg (by rw[n2,Bool.and_false];decide)]);clear hc;rcases hcase with rfl | rfl
                  · have N:=lH (NN.out);go_wp2_with (go_at_call 40;refine(jf _ _ (by assumption)).mono ?_;rintro e w' ⟨rfl,rfl⟩)
                    go_ret;exact⟨jb (HS.out.trans ((if_pos (by rw[N.out];decide)).trans N.out)).symm,HK.out.trans (ja _ _)⟩
                  · have N:=lH (NN.out);go_wp2_with (go_at_call 40;refine(jf _ _ (by assumption)).mono ?_;rintro e w' ⟨rfl,rfl⟩)
                    go_ret;exact⟨jb (HS.out.trans ((if_pos (by rw[N.out];decide)).trans N.out)).symm,HK.out.trans (ja _ _)⟩
              · have n1:isName x=false:=by simpa using n1
                have NN:=lH (show JC (o,x,y)=3 by rw[Jk,if_pos hc,if_neg (by rw[n1,Bool.false_and];decide)]);clear hc;rcases hcase with rfl | rfl
                · have N:=lH (NN.out);go_wp2_with (go_at_call 40;refine(jf _ _ (by assumption)).mono ?_;rintro e w' ⟨rfl,rfl⟩)
                  go_ret;exact⟨jb (HS.out.trans ((if_pos (by rw[N.out];decide)).trans N.out)).symm,HK.out.trans (ja _ _)⟩
                · have N:=lH (NN.out);go_wp2_with (go_at_call 40;refine(jf _ _ (by assumption)).mono ?_;rintro e w' ⟨rfl,rfl⟩)
                  go_ret;exact⟨jb (HS.out.trans ((if_pos (by rw[N.out];decide)).trans N.out)).symm,HK.out.trans (ja _ _)⟩
            · have hc:=hcase;have hn:¬(o=1∨o=2):=by omega
              by_cases n1:isName x=true
              · by_cases n2:eqS y ByteArray.empty=true
                · have NN:=lH (show JC (o,x,y)=0 by rw[Jk,if_neg hn,if_pos hc,if_pos (by rw[n1,n2];rfl)]);have n2':(y.toList==([]:List UInt8))=true:=by unfold eqS at n2;simpa using n2
                  clear hc hn n2;rcases hcase with rfl | rfl
                  · have N:=lH (NN.out);go_wp2_with (go_at_call 40;refine(jf _ _ (by assumption)).mono ?_;rintro e w' ⟨rfl,rfl⟩)
                    go_roundw
                    case rel=>exact⟨k+1,by omega,by go_num,(HT.out.trans (if_neg (by rw[N.out];decide))).symm,HK.out.trans (ja _ _)⟩
                    case measure=>simp[intOf];omega
                  · have N:=lH (NN.out);go_wp2_with (go_at_call 40;refine(jf _ _ (by assumption)).mono ?_;rintro e w' ⟨rfl,rfl⟩)
                    go_roundw
                    case rel=>exact⟨k+1,by omega,by go_num,(HT.out.trans (if_neg (by rw[N.out];decide))).symm,HK.out.trans (ja _ _)⟩
                    case measure=>simp[intOf];omega
                · have n2:eqS y ByteArray.empty=false:=by simpa using n2
                  have NN:=lH (show JC (o,x,y)=3 by rw[Jk,if_neg hn,if_pos hc,if_neg (by rw[n2,Bool.and_false];decide)]);have n2':(y.toList==([]:List UInt8))=false:=by unfold eqS at n2;simpa using n2
                  clear hc hn n2;rcases hcase with rfl | rfl
                  · have N:=lH (NN.out);go_wp2_with (go_at_call 40;refine(jf _ _ (by assumption)).mono ?_;rintro e w' ⟨rfl,rfl⟩)
                    go_ret;exact⟨jb (HS.out.trans ((if_pos (by rw[N.out];decide)).trans N.out)).symm,HK.out.trans (ja _ _)⟩
                  · have N:=lH (NN.out);go_wp2_with (go_at_call 40;refine(jf _ _ (by assumption)).mono ?_;rintro e w' ⟨rfl,rfl⟩)
                    go_ret;exact⟨jb (HS.out.trans ((if_pos (by rw[N.out];decide)).trans N.out)).symm,HK.out.trans (ja _ _)⟩
              · have n1:isName x=false:=by simpa using n1
                have NN:=lH (show JC (o,x,y)=3 by rw[Jk,if_neg hn,if_pos hc,if_neg (by rw[n1,Bool.false_and];decide)]);clear hc hn;rcases hcase with rfl | rfl
                · have N:=lH (NN.out);go_wp2_with (go_at_call 40;refine(jf _ _ (by assumption)).mono ?_;rintro e w' ⟨rfl,rfl⟩)
                  go_ret;exact⟨jb (HS.out.trans ((if_pos (by rw[N.out];decide)).trans N.out)).symm,HK.out.trans (ja _ _)⟩
                · have N:=lH (NN.out);go_wp2_with (go_at_call 40;refine(jf _ _ (by assumption)).mono ?_;rintro e w' ⟨rfl,rfl⟩)
                  go_ret;exact⟨jb (HS.out.trans ((if_pos (by rw[N.out];decide)).trans N.out)).symm,HK.out.trans (ja _ _)⟩
      · have HK:=lH hK;have HS:=lH ((HV.out.trans hrest.symm).trans (congrArg JR (zA (by rw[HL.out];exact hlt))));clear hK hrest;go_wp2;go_ret;exact⟨jb (HS.out.trans rfl).symm,HK.out⟩
 · have HV:=lH (show JZ l=4 by unfold JZ;rw[if_pos (by omega)]);have h9:8<len:=by omega
   clear h8 hr hl;go_enter Tryz.func43,Tryz.ntmps43;go_wp2;go_ret;exact⟨jb HV.out.symm,Kept.refl _⟩
end Go.Proofs.YtgfoenfaohhjcaaGreat
