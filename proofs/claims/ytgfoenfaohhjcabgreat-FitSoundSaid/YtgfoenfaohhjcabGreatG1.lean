/- What serves all packages,and package by package the contracts of the functions that the law calls. -/
import Derived.Test.YtgfoenfaohhjcabGreatG0
import Derived.Lib.AtoiErrMem
import Derived.Shelf.Strings.BuilderX
import Derived.StillTailTactics
import Derived.Lib.ItoaLen
import Derived.Lib.AppendIntMem
import Derived.Lib.SmallJoins
import Derived.Test.YtgfoenfaohhjcabGreatRows
import Derived.Stop.LaidErr
import Derived.Stop.Joined
import Derived.Shelf.Vars
import Derived.MakeChecks
import Derived.Shelf.SlSortCmp.QuietGrown
set_option linter.unusedVariables false
set_option maxRecDepth 100000
set_option maxHeartbeats 25600000
namespace Go.Proofs.YtgfoenfaohhjcabGreat
open Go.RowKit Go.Shelf
attribute [local go_sem] Oper.semAt_some
structure St (b2 D:Nat) (W W':World):Prop where
 os:W'.os=W.os
 tape:W'.tape=W.tape
 output:W'.output=W.output
 size:W.heap.size≤W'.heap.size
 block:∀b,b≠b2→b≠D→b≠D+1→W'.heap[b]?=W.heap[b]?
theorem St.setCell {b2 D:Nat} (W:World) (v:Value):St b2 D W (W.setCell ⟨b2,0,none⟩ v) :=
 ⟨rfl,rfl,rfl,by show W.heap.size≤(W.heap.modify _ _).size;rw[Array.size_modify];exact Nat.le_refl _,fun b h _ _=>Below.heap_setCell W ⟨b2,0,none⟩ v b h⟩
theorem St.drewN {b2 D:Nat} (W:World) (n:Nat):St b2 D W (W.drewN n):=⟨rfl,rfl,rfl,Nat.le_refl _,fun _ _ _ _=>rfl⟩
theorem St.put {b2 D:Nat} (W:World) (o:Obj):St b2 D W (W.putObj (D+1) o):=⟨rfl,rfl,rfl,by simp,fun b _ _ h=>World.putObj_heap_other h⟩
def KeptAt (b1 b2 b3 D:Nat) (W W':World):Prop:=∀b,b=b1∨b=b2∨b=b3∨b=D∨b=D+1→W'.heap[b]?=W.heap[b]?
theorem KeptAt.trans {b1 b2 b3 D:Nat} {A B C:World} (h:KeptAt b1 b2 b3 D A B) (k:KeptAt b1 b2 b3 D B C):KeptAt b1 b2 b3 D A C:=fun b hb=>(k b hb).trans (h b hb)
theorem KeptAt.drewN {b1 b2 b3 D:Nat} (W:World) (n:Nat):KeptAt b1 b2 b3 D W (W.drewN n):=fun _ _=>rfl
end Go.Proofs.YtgfoenfaohhjcabGreat
namespace Go.Proofs.YtgfoenfaohhjcabGreat
open Go.RowKit Go.Shelf
attribute [local go_sem] Oper.semAt_some
theorem Own.row {α:Type} {L:Lay α} {e:TypeId} {w:World} {B n:Nat} {v:Value} {l:List α} (h:Own L e w B v l) (hn:l.length=n):w.ownsRow B e L.m v n (jf L l):=hn▸h.1
def jaC {α:Type} (L:Lay α) (e:TypeId) (r:Int×List α) (base:Nat) (w:World) (en:Ending) (w':World):Prop :=
 (r.1=0→∃v,en=.returned v∧Own L e w' base v r.2)∧(r.1≠0→en=.panicked [zb r.1])∧Below base w w'
theorem jaC.good {α:Type} {L:Lay α} {e:TypeId} {r:Int×List α} {base:Nat} {w w':World} {v:Value} (h:r.1=0) (ho:Own L e w' base v r.2) (hb:Below base w w'):jaC L e r base w (.returned v) w':=⟨fun _=>⟨v,rfl,ho⟩,fun g=>absurd h g,hb⟩
theorem jaC.bad {α:Type} {L:Lay α} {e:TypeId} {r:Int×List α} {base:Nat} {w w':World} {c:Int} (h:r.1=c) (hc:c≠0) (hb:Below base w w'):jaC L e r base w (.panicked [zb c]) w':=⟨fun g=>absurd (h.symm.trans g) hc,fun _=>by rw[h],hb⟩
end Go.Proofs.YtgfoenfaohhjcabGreat
namespace Go.Proofs.YtgfoenfaohhjcabGreat.Vec
open Go.RowKit
def nameOf (p:List UInt8):List UInt8:=(Lib.cut p [61]).1
def jfD (p:List UInt8):List UInt8:=(Lib.cut p [61]).2.1
end Go.Proofs.YtgfoenfaohhjcabGreat.Vec
namespace Go.Proofs.YtgfoenfaohhjcabGreat.Vec
open Go.RowKit Go.Shelf
attribute [local go_sem] Oper.semAt_some
theorem jM.put {e:TypeId} {w:World} {B D:Nat} {v:Value} {l:V} (h:jM e w B v l) (hD:D<B) (o:Obj):jM e (w.putObj D o) B v l:=by
 obtain⟨⟨h0,h1⟩,hf⟩:=h;refine⟨⟨h0,h1.imp id ?_⟩,hf⟩;rintro ⟨g,cap,cur,rfl,hbg,hg,rest⟩;exact⟨g,cap,cur,rfl,hbg,(World.putObj_heap_other (by omega)).trans hg,rest⟩
theorem jM.row {e:TypeId} {w:World} {B n:Nat} {v:Value} {l:V} (h:jM e w B v l) (hn:l.length=n):w.ownsRow B e 2 v n (cellsOf l):=hn▸h.1
end Go.Proofs.YtgfoenfaohhjcabGreat.Vec
namespace Go.Proofs.YtgfoenfaohhjcabGreat.Vec
open Go.RowKit
theorem jcu (C:Addr) (a:Option Addr) (len cap:Nat) (l:V) (w:World)
 (hk:∀W,Kept w W→Calls Tryz.prog 160 #[.pointer (some C)] W (Chk l (.slice a len cap) W)) :
 Calls Tryz.prog 150 #[.func (.func 160) #[] #[.pointer (some C)]] w (fun e w'=>∃v,e=.returned (.tuple #[v,.int .i64 (jo l)])∧Kept w w'):=by
 have hmf:=hmfL (P:=Tryz.prog);have HK:=lH hk;clear hk;obtain⟨r1,hr1⟩:∃r1,jo l=r1:=⟨_,rfl⟩
 rw[hr1];have HR1:=lH hr1;clear hr1;go_enter_defers Tryz.func150,Tryz.ntmps150
 go_wp2_with fail
 refine(HK.out _ (ja _ _)).mono ?_;rintro e1 w1 ⟨h0,h1,hb⟩;have k1:=hb.size;simp only[World.size_alloc] at k1;have c2:=(hb.cell (p:=⟨w.heap.size,0,none⟩) (by simp))
 have z2:=(hb.frozen (p:=⟨w.heap.size,0,none⟩) (by simp))
 have e2':w1.cell? ⟨w.heap.size,0,none⟩=some (.int .i64 0):=by rw[c2];go_simp
 have y2:w1.frozen? ⟨w.heap.size,0,none⟩=false:=by rw[z2];go_simp
 clear c2 z2;have KB:=lH (show Below w.heap.size w w1 from(ja w _).trans hb);rw[HR1.out] at h0 h1;by_cases hx:r1=0
 · subst hx;obtain rfl:=h0 rfl;have hsz:=World.size_alloc w (.cells #[.int .i64 0] 49);clear h0 h1 hb;go_wp2_with fail
   refine leaves_cons (f:=168) (args:=#[.pointer (some ⟨w.heap.size,0,none⟩)]) (by simp) (by simp[go_sem]) ?_;refine(Yf ⟨w.heap.size,0,none⟩ _).mono ?_;rintro e u' w'' ⟨rfl,rfl,rfl⟩;simp[Leaves,settle,results,Tryz.results150,go_sem,e2'];exact KB.out.setCell (p:=⟨w.heap.size,0,none⟩) (Nat.le_refl _) _
 · obtain rfl:=h1 hx;clear h0 h1 hb;go_wp2_with fail
   refine leaves_cons (f:=168) (args:=#[.pointer (some ⟨w.heap.size,0,none⟩)]) (by simp) (by simp[go_sem]) ?_;refine(JK w.heap.size w.heap.size r1 0 _ e2' y2 (by omega)).mono ?_;rintro e u' w'' ⟨rfl,rfl,q2,q3⟩;simp[Leaves,settle,results,Tryz.results150,go_sem,q2];exact KB.out.trans q3
theorem jbM (C:Addr) (a:Option Addr) (len cap:Nat) (l:V) (w:World) (h1:w.cell? C=some (.slice a len cap)) (hr:jq w a len l) :
 Calls Tryz.prog 160 #[.pointer (some C)] w (Chk l (.slice a len cap) w):=by
 have HR:=lH hr;clear hr;go_enter Tryz.func160,Tryz.ntmps160;go_wp2_with fail
 refine(zB a len cap l _ HR.out).mono ?_;rintro e w' ⟨g0,g1,k⟩;by_cases hx:jo l=0
 · obtain rfl:=g0 hx;have HX:=lH hx;have HK:=lH k;clear g0 g1 hx k;go_wp2;go_ret;exact Chk.good HX.out HK.out
 · obtain rfl:=g1 hx;have HX:=lH hx;have HK:=lH k;clear g0 g1 hx k;go_wp2;exact⟨rfl,Chk.bad rfl HX.out HK.out⟩
theorem XW (a:Option Addr) (len cap:Nat) (l:V) (w:World) (hr:jq w a len l) :
 Calls Tryz.prog 137 #[.slice a len cap] w fun e w'=>e=.returned (.int .i64 (jo l))∧Kept w w':=by
 have hmf:=hmfL (P:=Tryz.prog);have hC:∀W,Kept (w.alloc (.cells #[.slice a len cap] 28)) W→Calls Tryz.prog 160 #[.pointer (some ⟨w.heap.size,0,none⟩)] W (Chk l (.slice a len cap) W):=by
  intro W k;have c1:=k.cell (p:=⟨w.heap.size,0,none⟩) (by simp);exact jbM ⟨w.heap.size,0,none⟩ a len cap l W (by rw[c1];go_simp) (hr.kept ((ja w _).trans k))
 have HC:=lH hC;clear hC hr;go_enter Tryz.func137,Tryz.ntmps137;go_wp2_with fail
 refine(jcu ⟨w.heap.size,0,none⟩ a len cap l _ HC.out).mono ?_;rintro e w' ⟨v,rfl,k⟩;have HK:=lH k;clear k;go_wp2;go_ret;exact⟨rfl,(ja w _).trans HK.out⟩
open Go.RowKit Go.Shelf
def jap (b:Nat) (w w':World):Prop:=∀g cs fr,g≠b→w.heap[g]?=some (.cells cs 105 fr)→w'.heap[g]?=w.heap[g]?
theorem jap.trans {b:Nat} {x y z:World} (h:jap b x y) (k:jap b y z):jap b x z:=fun g cs fr hg hc=>(k g cs fr hg ((h g cs fr hg hc).trans hc)).trans (h g cs fr hg hc)
theorem Reads.nil (w:World):Reads w (.slice none 0 0) []:=⟨none,0,rfl,Nat.le_refl _,by decide,jq.nil w⟩
theorem XL {v:Value} {l:V} {c:Int} {w:World} (h:Reads w v l) (e:jo l=c) :
 Calls Tryz.prog 137 #[v] w fun x w'=>x=.returned (.int .i64 c)∧Kept w w':=by
 subst e;obtain⟨a,cap,rfl,h1,h2,h3⟩:=h;exact XW a _ cap l w h3
theorem JG {v:Value} {l:V} {c:Int} {w:World} (h:Reads w v l) (e:jo l=c) :
 Calls Tryz.prog 30 #[v] w fun x w'=>x=.returned (.int .i64 c)∧Kept w w':=by
 subst e;obtain⟨a,cap,rfl,h1,h2,h3⟩:=h;exact ZY a _ cap l w h3
theorem jgU {v:Value} {l:V} {n:ByteArray} {c:Int} {w:World} (h:Reads w v l) (e:jg l n=c) :
 Calls Tryz.prog 110 #[v,.string n] w fun x w'=>x=.returned (.int .i64 c)∧Kept w w':=by
 subst e;obtain⟨a,cap,rfl,h1,h2,h3⟩:=h;exact Yx a _ cap l n w h3
theorem jej {v v':Value} {l l':V} {c:Bool} {w:World} (h:Reads w v l) (h':Reads w v' l') (e:jv l' l=c) :
 Calls Tryz.prog 70 #[v,v'] w fun x w'=>x=.returned (.bool c)∧Kept w w':=by
 subst e;obtain⟨a,cap,rfl,h1,h2,h3⟩:=h;obtain⟨a',cap',rfl,h1',h2',h3'⟩:=h';exact Xh a a' _ cap _ cap' l l' w h3 h3'
theorem Xj {n:ByteArray} {c:Bool} {w:World} (h:n.size≤maxLen) (e:isName n=c) :
 Calls Tryz.prog 136 #[.string n] w fun x w'=>x=.returned (.bool c)∧w=w':=by
 subst e;exact jY n w h
theorem jcf {v:Value} {l:V} {c:Bool} {w:World} (h:Reads w v l) (e:ZZ l=c) :
 Calls Tryz.prog 25 #[v] w fun x w'=>x=.returned (.bool c)∧w=w':=by
 subst e;obtain⟨a,cap,rfl,h1,h2,h3⟩:=h;exact jaP a _ cap l w h3
def cpu:ByteArray:=⟨#[99,112,117]⟩
def mem:ByteArray:=⟨#[109,101,109]⟩
def kA:V:=[(cpu,100),(mem,5)]
theorem jdz:(Tryz.prog.info? 124).map (fun i=>(i.zero,i.size,i.bytes))=some (some (.agg #[.string ByteArray.empty,.int .i64 0]),2,24):=by kernel_rfl
theorem jbo {l:V} {k:Nat} (h:k<l.length):l.take (k+1)=l.take k++[(nm l k,qn l k)]:=by
 rw[List.take_add_one];congr 1;have:l.getD k (ByteArray.empty,0)=l[k]:=by simp[List.getD,h]
 have e:(nm l k,qn l k)=l[k]:=by simp only[nm,qn,this]
 rw[e];simp[h]
theorem jce (a:Option Addr) (len cap:Nat) (l:V) (w:World) (hr:jq w a len l) (hlen:len≤1000000) :
 Calls Tryz.prog 34 #[.slice a len cap] w (fun e w'=>∃x,e=.returned x∧jM 124 w' w.heap.size x l∧Kept w w'):=by
 have hl:=hr.1;obtain⟨i0,hi,hz0,hz1,hz2⟩:=info_parts jdz;rcases hr.form with h0 | ⟨b,off,rfl⟩
 · subst h0;have hl0:l=[]:=List.eq_nil_of_length_eq_zero hl;subst hl0;clear hr hl hi hz0 hz1 hz2;go_enter Tryz.func34,Tryz.ntmps34;go_wp2;refine wp_loop_rounds 1 ?_;rw[rounds_succ];go_wp2;go_ret;exact⟨_,rfl,jM.nil _ _ _,Kept.refl _⟩
 · have HR:=lH hr;have HL:=lH hl;have HF:=lH hr.2.2.1;clear hr hl;go_enter Tryz.func34,Tryz.ntmps34;go_wp2;go_loopw [3,4] (fun v i wr=>∃k:Nat,k≤len∧i=.int .i64 k∧jM 124 wr w.heap.size v (l.take k)∧Below w.heap.size w wr) (fun _ i _=>len-(intOf i).toNat)
   case atStart=>exact⟨0,Nat.zero_le _,rfl,jM.nil _ _ _,Below.refl _ _⟩
   case round =>
    obtain⟨k,hk,rfl,ho,hB⟩:=hrel;have HO:=lH ho;have HB:=lH hB;have HT:=lH (show (l.take k).length=k by rw[List.length_take,HL.out];omega);have HOWN:=lH (show wr.ownsRow w.heap.size 124 2 u3 k (cellsOf (l.take k)) by have:=HO.out.1;rw[HT.out] at this;exact this);by_cases hlt:k<len
    · obtain⟨hb,c1,c2⟩:=(HR.out.kept hB).cells hlt;have HI:=lH (show k<l.length by rw[HL.out];exact hlt);have hbw:b<w.heap.size:=(HR.out.cells hlt).1;have hbase:w.heap.size≤wr.heap.size:=hB.size;have HNE:=lH (show u3.ownBlock≠some b by
       intro e;have:=(HOWN.out.lt b e).1;omega)
      have HBASE:=lH (show w.heap.size≤(wr.alloc (.cells #[.string (nm l k),.int .i64 (qn l k)] 124)).drew.heap.size by simp;omega);have HBD:=lH (show Below w.heap.size w ((wr.alloc (.cells #[.string (nm l k),.int .i64 (qn l k)] 124)).drew) from HB.out.trans (Below.mono ((ja wr _).trans (Kept.drewN _ 1)) hbase));have hk1:(k:Int)<(len:Int):=by omega
      have HFK:=lH (HF.out k HI.out);clear ho hB;go_wp2_with fail
      go_region_held3 (fun W=>W.cell? ⟨b,off+k*2,none⟩=some (.string (nm l k))∧W.cell? ⟨b,off+k*2+1,none⟩=some (.int .i64 (qn l k)))
       (first
         | go_keep
         | (go_split_ands
            refine⟨?_,?_⟩
            · (refine(hgrow.cell_far ⟨b,off+k*2,none⟩ (by simp;omega) (Ne.symm HNE.out)).trans ?_;assumption)
            · (refine(hgrow.cell_far ⟨b,off+k*2+1,none⟩ (by simp;omega) (Ne.symm HNE.out)).trans ?_;assumption)))
       ((refine step_append_lies _ (by rfl) _ _ _ (by rfl) w.heap.size 124 i0 _ 2 24 Tryz.underlying40 hi hz0 hz1 hz2 rfl (by decide) u3 k (cellsOf (l.take k)) (by rfl) ((HOWN.out.alloc _).drew)
          ⟨wr.heap.size,0,none⟩ 1 1 [.string (nm l k),.int .i64 (qn l k)] (by rfl) (by rfl) (World.news_of_block (cs:=#[.string (nm l k),.int .i64 (qn l k)]) (t:=124) (fr:=(0,0)) (heap_alloc_new wr _)) (Zy [(nm l k,qn l k)])
          (by decide) (by unfold maxLen;omega) (by omega) (by simp;omega) (wr.heap.size+1) (by simp) ?_;intro gg cap1 w1 hown1 hgrow hat hlt1))
      all_goals
       go_wp2;go_roundw
       case rel=>exact⟨k+1,by omega,by go_num,⟨by rw[jbo HI.out,Zm,List.length_append,HT.out];exact hown1,by rw[jbo HI.out];exact HO.out.2.snoc HFK.out.1 HFK.out.2.1 HFK.out.2.2⟩,HBD.out.grown hgrow HBASE.out (fun j hj=>(HOWN.out.lt j hj).1)⟩
       case measure=>simp[intOf];omega
    · have HK:=lH (show l.take k=l by rw[List.take_of_length_le (by rw[HL.out];omega)]);clear ho hB;go_wp2;go_ret;exact⟨_,rfl,by have h:=HO.out;rw[HK.out] at h;exact h,HB.out⟩
theorem qo:∀s:List UInt8,Op.bytesLess s s=false
 | []=>rfl
 | a::s=>by
  have:¬a<a:=UInt8.lt_irrefl a;simp[Op.bytesLess,qo s,this]
theorem jaw:∀{a b c:List UInt8},Op.bytesLess a b=true→Op.bytesLess b c=true→Op.bytesLess a c=true
 | _,_,[],_,h=>by simp[Op.bytesLess] at h
 | [],_,_::_,_,_=>by simp[Op.bytesLess]
 | x::a,[],z::c,h,_=>by simp[Op.bytesLess] at h
 | x::a,y::b,z::c,h,g=>by
  simp only[Op.bytesLess,Bool.or_eq_true,Bool.and_eq_true,decide_eq_true_eq,beq_iff_eq] at h g ⊢;rcases h with h | ⟨rfl,h⟩
  · rcases g with g | ⟨rfl,g⟩
    · exact .inl (UInt8.lt_trans h g)
    · exact .inl h
  · rcases g with g | ⟨rfl,g⟩
    · exact .inl g
    · exact .inr ⟨rfl,jaw h g⟩
theorem jch:∀{a b:List UInt8},Op.bytesLess a b=false→Op.bytesLess b a=false→a=b
 | [],[],_,_=>rfl
 | [],_::_,h,_=>by simp[Op.bytesLess] at h
 | _::_,[],_,h=>by simp[Op.bytesLess] at h
 | x::a,y::b,h,g=>by
  simp only[Op.bytesLess,Bool.or_eq_false_iff,decide_eq_false_iff_not,Bool.and_eq_false_iff,beq_eq_false_iff_ne] at h g;have e:x=y:=by
   have h1:=UInt8.not_lt.1 h.1;have h2:=UInt8.not_lt.1 g.1;exact UInt8.le_antisymm h2 h1
  subst e;have h2:=h.2.resolve_left (by simp);have g2:=g.2.resolve_left (by simp);rw[jch h2 g2]
theorem jee (s t:ByteArray):ltS s t=Op.bytesLess s.data.toList t.data.toList:=by unfold ltS;rw[Lib.toList_data,Lib.toList_data]
theorem jW {s t:ByteArray}:eqS s t=true↔s=t:=by
 unfold eqS;rw[Lib.toList_data,Lib.toList_data,beq_iff_eq];exact⟨fun h=>Go.WideShapes.bytes_inj h,fun h=>by rw[h]⟩
theorem jaa (s:ByteArray):ltS s s=false:=by rw[jee];exact qo _
theorem Jf {s t u:ByteArray} (h:ltS s t=true) (g:ltS t u=true):ltS s u=true:=by
 rw[jee] at *;exact jaw h g
theorem Y7 {s t:ByteArray} (h:ltS s t=false) (g:ltS t s=false):s=t:=by
 rw[jee] at *;exact Go.WideShapes.bytes_inj (jch h g)
theorem ZD {s t:ByteArray} (h:ltS s t=true):s≠t:=by rintro rfl;rw[jaa] at h;cases h
theorem XG {s t:ByteArray} (h:ltS s t=true) (g:ltS t s=true):False:=ZD (Jf h g) rfl
def Gd (l:V):Prop:=(∀x ∈ l,isName x.1=true∧0<x.2∧x.2≤9223372036854775807)∧l.Pairwise (fun x y=>ltS x.1 y.1=true)
theorem Gd.nil:Gd []:=⟨fun x hx=>absurd hx (by simp),.nil⟩
theorem Gd.cons {x:ByteArray×Int} {t:V}:Gd (x::t)↔(isName x.1=true∧0<x.2∧x.2≤9223372036854775807)∧(∀y ∈ t,ltS x.1 y.1=true)∧Gd t:=by
 unfold Gd;rw[List.pairwise_cons,List.forall_mem_cons];constructor
 · rintro ⟨⟨a,b⟩,c,d⟩;exact⟨a,c,b,d⟩
 · rintro ⟨a,c,b,d⟩;exact⟨⟨a,b⟩,c,d⟩
theorem zQ (x:ByteArray×Int) (t:V):jg (x::t) x.1=x.2:=by rw[jg,if_pos (jW.2 rfl)]
theorem zT {x:ByteArray×Int} {n:ByteArray} (t:V) (h:x.1≠n):jg (x::t) n=jg t n:=by rw[jg,if_neg (fun e=>h (jW.1 e))]
theorem YA:∀{l:V} {n:ByteArray},(∀y ∈ l,y.1≠n)→jg l n=0
 | [],_,_=>rfl
 | x::t,n,h=>by rw[zT t (h x (by simp))];exact YA fun y hy=>h y (by simp[hy])
theorem get_mem:∀{l:V} {n:ByteArray},jg l n≠0→∃y ∈ l,y.1=n
 | [],_,h=>absurd rfl h
 | x::t,n,h=>by
  by_cases e:x.1=n
  · exact⟨x,by simp,e⟩
  · rw[zT t e] at h;obtain⟨y,hy,hn⟩:=get_mem h;exact⟨y,by simp[hy],hn⟩
theorem zU:∀{l:V} (n:ByteArray),Gd l→0≤jg l n∧jg l n≤9223372036854775807
 | [],_,_=>⟨Int.le_refl _,(by decide:(0:Int)≤9223372036854775807)⟩
 | x::t,n,h=>by
  have h':=Gd.cons.1 h;by_cases e:x.1=n
  · subst e;rw[zQ];omega
  · rw[zT t e];exact zU n h'.2.2
theorem jao:∀{l:V} {x:ByteArray×Int},Gd l→x ∈ l→jg l x.1=x.2
 | [],_,_,h=>absurd h (by simp)
 | y::t,x,h,hx=>by
  have h':=Gd.cons.1 h;rcases List.mem_cons.1 hx with rfl | hx
  · exact zQ _ _
  · rw[zT t (ZD (h'.2.1 x hx))];exact jao h'.2.2 hx
theorem Js {l:V} {n:ByteArray} (h:∀y ∈ l,ltS n y.1=true):jg l n=0:=YA fun y hy=>(ZD (h y hy)).symm
theorem Gd.ext:∀{a b:V},Gd a→Gd b→(∀n,jg a n=jg b n)→a=b
 | [],[],_,_,_=>rfl
 | [],y::t,_,hb,h=>by
  have:=h y.1;rw[zQ] at this;have:=(Gd.cons.1 hb).1;rw[show jg [] y.1=0 from rfl] at *;omega
 | x::s,[],ha,_,h=>by
  have:=h x.1;rw[zQ] at this;have:=(Gd.cons.1 ha).1;rw[show jg [] x.1=0 from rfl] at *;omega
 | x::s,y::t,ha,hb,h=>by
  have ha':=Gd.cons.1 ha;have hb':=Gd.cons.1 hb;have e1:ltS x.1 y.1=false:=by
   cases e:ltS x.1 y.1 with
   | false=>rfl
   | true =>
    have hx:=h x.1;rw[zQ,Js (l:=y::t) (fun z hz=>by
     rcases List.mem_cons.1 hz with rfl | hz
     · exact e
     · exact Jf e (hb'.2.1 z hz))] at hx
    omega
  have e2:ltS y.1 x.1=false:=by
   cases e:ltS y.1 x.1 with
   | false=>rfl
   | true =>
    have hx:=h y.1;rw[zQ,Js (l:=x::s) (fun z hz=>by
     rcases List.mem_cons.1 hz with rfl | hz
     · exact e
     · exact Jf e (ha'.2.1 z hz))] at hx
    omega
  have e:=Y7 e1 e2;have hv:x.2=y.2:=by have:=h x.1;rw[zQ,e,zQ] at this;exact this
  have ht:s=t:=Gd.ext ha'.2.2 hb'.2.2 fun n=>by
   by_cases en:x.1=n
   · rw[Js (fun z hz=>en▸ha'.2.1 z hz),Js (fun z hz=>en▸e▸hb'.2.1 z hz)]
   · have:=h n;rw[zT s en,zT t (by rw[←e];exact en)] at this;exact this
  obtain⟨x1,x2⟩:=x;obtain⟨y1,y2⟩:=y
  cases e;cases hv;rw[ht]
theorem Gd.len:∀{b r:V},Gd r→Gd b→(∀n,jg r n≠0→jg b n≠0)→r.length≤b.length
 | [],[],_,_,_=>Nat.le_refl _
 | [],x::s,hr,_,h=>by
  have:=h x.1;rw[zQ] at this;have h1:=(Gd.cons.1 hr).1;exact absurd rfl (this (by omega))
 | y::t,[],_,_,_=>Nat.zero_le _
 | y::t,x::s,hr,hb,h=>by
  have hr':=Gd.cons.1 hr;have hb':=Gd.cons.1 hb;have:s.length≤t.length:=Gd.len hr'.2.2 hb'.2.2 fun n hn=>by
   obtain⟨z,hz,rfl⟩:=get_mem hn;have hlt:=hr'.2.1 z hz;have hb2:=h z.1 (by rw[zT s (ZD hlt)];exact hn);by_cases e:y.1=z.1
   · obtain⟨u,hu,hux⟩:=get_mem (h x.1 (by rw[zQ];omega));rcases List.mem_cons.1 hu with rfl | hu
     · rw[←hux,e,jaa] at hlt;cases hlt
     · have:=hb'.2.1 u hu;rw[hux,e] at this;exact(XG hlt this).elim
   · rw[zT t e] at hb2;exact hb2
  simp only[List.length_cons];omega
theorem YZ {s t:ByteArray} (h:leS s t=false):ltS t s=true:=by
 unfold leS at h;rw[Bool.or_eq_false_iff] at h
 cases e:ltS t s with
 | true=>rfl
 | false=>rw[Y7 h.1 e,jW.2 rfl] at h;cases h.2
theorem XV {s t:ByteArray} (h:ltS t s=true):leS s t=false:=by
 unfold leS;rw[Bool.or_eq_false_iff];refine⟨?_,?_⟩
 · cases e:ltS s t with
   | false=>rfl
   | true=>exact(XG h e).elim
 · cases e:eqS s t with
   | false=>rfl
   | true=>exact absurd (jW.1 e).symm (ZD h)
theorem ZW {l:V} (h:jo l=0) (hf:zN l):Gd l:=by
 have h2:jI none l=0:=by
  unfold jo at h;split at h
  · cases h
  · exact h
 have key:∀(l:V) (p:Option ByteArray),jI p l=0→zN l→Gd l∧(∀x,p=some x→∀y ∈ l,ltS x y.1=true):=by
  intro l
  induction l with
  | nil=>intro p _ _;exact⟨Gd.nil,fun _ _ y hy=>absurd hy (by simp)⟩
  | cons x t ih =>
   intro p hc hf;rw[zN.cons] at hf;unfold jI at hc;split at hc
   · cases hc
   · rename_i n1;split at hc
     · cases hc
     · rename_i n2;split at hc
       · cases hc
       · rename_i n3;obtain⟨hg,hall⟩:=ih _ hc hf.2;have hx:=hall x.1 rfl;refine⟨Gd.cons.2 ⟨⟨by simpa using n1,by omega,hf.1.2.2⟩,hx,hg⟩,?_⟩;rintro q rfl y hy;have hq:ltS q x.1=true:=YZ (by simpa [jF] using n3);rcases List.mem_cons.1 hy with rfl | hy
         · exact hq
         · exact Jf hq (hx y hy)
 exact(key l none h2 hf).1
theorem jaq {l:V} (h:Gd l) (hl:l.length≤8):jo l=0:=by
 have key:∀(l:V) (p:Option ByteArray),Gd l→(∀x,p=some x→∀y ∈ l,ltS x y.1=true)→jI p l=0:=by
  intro l
  induction l with
  | nil=>intro p _ _;cases p<;>rfl
  | cons x t ih =>
   intro p hg hp;have hg':=Gd.cons.1 hg;rw[jI,if_neg (by rw[hg'.1.1];decide),if_neg (by omega),if_neg]
   · exact ih _ hg'.2.2 fun q e y hy=>by cases e;exact hg'.2.1 y hy
   · cases p with
     | none=>simp[jF]
     | some q=>rw[show jF (some q) x.1=leS x.1 q from rfl,XV (hp q rfl x (by simp))];decide
 unfold jo;rw[if_neg (by omega)];exact key l none h (fun _ e=>by cases e)
theorem YS {l:V} {s:ByteArray} (hg:Gd l) (h:∀y ∈ l,y.1=s∨ltS s y.1=true) :
 (jn l s).1=jg l s∧Gd (jn l s).2∧(∀y ∈ (jn l s).2,ltS s y.1=true)∧(∀n,n≠s→jg (jn l s).2 n=jg l n)∧(∀m,(∀y ∈ l,ltS m y.1=true)→∀y ∈ (jn l s).2,ltS m y.1=true):=by
 cases l with
 | nil=>exact⟨rfl,hg,fun y hy=>absurd hy (by simp[jn]),fun _ _=>rfl,fun _ _ y hy=>absurd hy (by simp[jn])⟩
 | cons x t =>
  have hg':=Gd.cons.1 hg;rw[zr];by_cases e:x.1=s
  · rw[if_pos (jW.2 e)];subst e;exact⟨(zQ x t).symm,hg'.2.2,hg'.2.1,fun n hn=>(zT t (Ne.symm hn)).symm,fun m hm y hy=>hm y (by simp[hy])⟩
  · rw[if_neg (fun c=>e (jW.1 c))];have hx:ltS s x.1=true:=(h x (by simp)).resolve_left e;have hall:∀y ∈ x::t,ltS s y.1=true:=fun y hy=>by
     rcases List.mem_cons.1 hy with rfl | hy
     · exact hx
     · exact Jf hx (hg'.2.1 y hy)
    exact⟨(Js hall).symm,hg,hall,fun _ _=>rfl,fun m hm=>hm⟩
theorem Xx {la lb:V} (ha:Gd la) (hb:Gd lb) (h:0<la.length+lb.length) :
 isName (ji la lb)=true∧(∀y ∈ la,y.1=ji la lb∨ltS (ji la lb) y.1=true)∧(∀y ∈ lb,y.1=ji la lb∨ltS (ji la lb) y.1=true) ∧
  (∀m,(∀y ∈ la,ltS m y.1=true)→(∀y ∈ lb,ltS m y.1=true)→ltS m (ji la lb)=true):=by
 have own:∀{x:ByteArray×Int} {t:V},Gd (x::t)→∀y ∈ x::t,y.1=x.1∨ltS x.1 y.1=true:=fun {x t} hg y hy=>by
  rcases List.mem_cons.1 hy with rfl | hy
  · exact .inl rfl
  · exact .inr ((Gd.cons.1 hg).2.1 y hy)
 cases la with
 | nil =>
  cases lb with
  | nil=>simp at h
  | cons y t=>exact⟨(Gd.cons.1 hb).1.1,fun z hz=>absurd hz (by simp),own hb,fun m _ hm=>hm y (by simp)⟩
 | cons x s =>
  cases lb with
  | nil=>exact⟨(Gd.cons.1 ha).1.1,own ha,fun z hz=>absurd hz (by simp),fun m hm _=>hm x (by simp)⟩
  | cons y t =>
   rw[Jp];by_cases e:ltS y.1 x.1=true
   · rw[if_pos e];refine⟨(Gd.cons.1 hb).1.1,fun z hz=>.inr ?_,own hb,fun m _ hm=>hm y (by simp)⟩;rcases own ha z hz with hz | hz
     · rw[hz];exact e
     · exact Jf e hz
   · rw[if_neg e];refine⟨(Gd.cons.1 ha).1.1,own ha,fun z hz=>?_,fun m hm _=>hm x (by simp)⟩;have e':ltS y.1 x.1=false:=by simpa using e
     have hxy:y.1=x.1∨ltS x.1 y.1=true:=by
      cases e2:ltS x.1 y.1 with
      | true=>exact .inr rfl
      | false=>exact .inl (Y7 e' e2)
     rcases own hb z hz with hz | hz
     · rw[hz];exact hxy
     · rcases hxy with hxy | hxy
       · rw[←hxy];exact .inr hz
       · exact .inr (Jf hxy hz)
structure Rk (f:Int→Int→Int×Int):Prop where
 zero:f 0 0=(0,0)
 code:∀x y,0≤x∧x≤9223372036854775807→0≤y∧y≤9223372036854775807→(f x y).2=0∨(f x y).2=5
 bd:∀x y,0≤x∧x≤9223372036854775807→0≤y∧y≤9223372036854775807→0≤(f x y).1∧(f x y).1≤9223372036854775807
theorem je2:Rk jx:=by
 refine⟨by decide,fun x y hx hy=>?_,fun x y hx hy=>ja0 hx hy⟩;unfold jx;split
 · exact .inl rfl
 · exact .inr rfl
theorem jeV:Rk jZ:=by
 refine⟨by decide,fun x y hx hy=>?_,fun x y hx hy=>jdE hx hy⟩;unfold jZ;split
 · exact .inl rfl
 · exact .inr rfl
def Made (f:ByteArray→Int) (r:V):Prop:=Gd r∧∀n,jg r n=f n
theorem jfg {r:V} {s:ByteArray} {v:Int} {g g':ByteArray→Int} (hr:Made g' r) (hs:isName s=true) (hv:0≤v∧v≤9223372036854775807) (hall:∀y ∈ r,ltS s y.1=true)
 (h1:g s=v) (h2:∀n,n≠s→g n=g' n):∃r',(∀acc,ZE acc s v++r=acc++r')∧Made g r'∧(∀m,ltS m s=true→(∀y ∈ r,ltS m y.1=true)→∀y ∈ r',ltS m y.1=true)∧r'.length≤r.length+1:=by
 by_cases e:v=0
 · refine⟨r,fun acc=>by unfold ZE;rw[if_pos e],⟨hr.1,fun n=>?_⟩,fun m _ h=>h,by omega⟩;by_cases en:n=s
   · subst en;rw[Js hall,h1,e]
   · rw[hr.2 n,h2 n en]
 · refine⟨(s,v)::r,fun acc=>by unfold ZE;rw[if_neg e];simp,⟨Gd.cons.2 ⟨⟨hs,by omega,hv.2⟩,hall,hr.1⟩,fun n=>?_⟩,fun m hm h y hy=>?_,by simp⟩
   · by_cases en:n=s
     · subst en;rw[zQ (n,v) r,h1]
     · rw[zT (x:=(s,v)) r (fun c=>en c.symm),hr.2 n,h2 n en]
   · rcases List.mem_cons.1 hy with rfl | hy
     · exact hm
     · exact h y hy
theorem merge_spec {f:Int→Int→Int×Int} (hf:Rk f):∀(fuel:Nat) (la lb:V),la.length+lb.length≤fuel→Gd la→Gd lb →
 ((∃n,(f (jg la n) (jg lb n)).2≠0)∧∀acc,jT f fuel la lb acc=(5,[])) ∨
 ((∀n,(f (jg la n) (jg lb n)).2=0)∧∃r,(∀acc,jT f fuel la lb acc=(0,acc++r))∧Made (fun n=>(f (jg la n) (jg lb n)).1) r ∧
   (∀m,(∀y ∈ la,ltS m y.1=true)→(∀y ∈ lb,ltS m y.1=true)→∀y ∈ r,ltS m y.1=true)):=by
 intro fuel
 induction fuel with
 | zero =>
  intro la lb hl ha hb;have e1:la=[]:=List.eq_nil_of_length_eq_zero (by omega);have e2:lb=[]:=List.eq_nil_of_length_eq_zero (by omega);subst e1;subst e2;refine .inr ⟨fun n=>by rw[show jg [] n=0 from rfl,hf.zero],[],fun acc=>by rw[jT,List.append_nil],⟨Gd.nil,fun n=>by show (0:Int)=(f 0 0).1;rw[hf.zero]⟩,fun m _ _ y hy=>absurd hy (by simp)⟩
 | succ fuel ih =>
  intro la lb hl ha hb;by_cases h0:la.length+lb.length=0
  · have e1:la=[]:=List.eq_nil_of_length_eq_zero (by omega);have e2:lb=[]:=List.eq_nil_of_length_eq_zero (by omega);subst e1;subst e2;refine .inr ⟨fun n=>by rw[show jg [] n=0 from rfl,hf.zero],[],fun acc=>by rw[XM (by simp),List.append_nil],⟨Gd.nil,fun n=>by show (0:Int)=(f 0 0).1;rw[hf.zero]⟩,fun m _ _ y hy=>absurd hy (by simp)⟩
  · obtain⟨hs,hsa,hsb,hsm⟩:=Xx ha hb (by omega);have hless:=Xq (la:=la) (lb:=lb) (by omega);obtain⟨s,es⟩:∃s,ji la lb=s:=⟨_,rfl⟩
    have hstep:∀acc,jT f (fuel+1) la lb acc=if (f (jn la s).1 (jn lb s).1).2≠0 then ((f (jn la s).1 (jn lb s).1).2,[]) else jT f fuel (jn la s).2 (jn lb s).2 (ZE acc s (f (jn la s).1 (jn lb s).1).1):=fun acc=>by
     rw[jT,if_neg h0];dsimp only;rw[es]
    rw[es] at hs hsa hsb hsm hless;obtain⟨a1,a2,a3,a4,a5⟩:=YS ha hsa;obtain⟨b1,b2,b3,b4,b5⟩:=YS hb hsb;rw[a1,b1] at hstep;have hca:=zU s ha;have hcb:=zU s hb;by_cases hx:(f (jg la s) (jg lb s)).2=0
    · have hstep2:∀acc,jT f (fuel+1) la lb acc=jT f fuel (jn la s).2 (jn lb s).2 (ZE acc s (f (jg la s) (jg lb s)).1):=fun acc=>by
       rw[hstep acc,if_neg (by rw[hx];decide)]
      have e0:∀n,n=s→f (jg (jn la s).2 n) (jg (jn lb s).2 n)=(0,0):=fun n hn=>by
       subst hn;rw[Js a3,Js b3,hf.zero]
      rcases ih (jn la s).2 (jn lb s).2 (by omega) a2 b2 with ⟨⟨n,hn⟩,hbad⟩ | ⟨hgood,r,hr,hm,hmin⟩
      · refine .inl ⟨⟨n,?_⟩,fun acc=>by rw[hstep2,hbad]⟩;by_cases en:n=s
        · rw[e0 n en] at hn;exact absurd rfl hn
        · rw[a4 n en,b4 n en] at hn;exact hn
      · obtain⟨r',h1,h2,h3,_⟩:=jfg (s:=s) (v:=(f (jg la s) (jg lb s)).1) (g:=fun n=>(f (jg la n) (jg lb n)).1) hm hs (hf.bd _ _ hca hcb) (hmin s a3 b3) rfl
         (fun n hn=>by show _=_;rw[a4 n hn,b4 n hn])
        refine .inr ⟨fun n=>?_,r',fun acc=>by rw[hstep2,hr,h1],h2,fun m hma hmb=>h3 m (hsm m hma hmb) (hmin m (a5 m hma) (b5 m hmb))⟩;by_cases en:n=s
        · rw[en];exact hx
        · have:=hgood n;rw[a4 n en,b4 n en] at this;exact this
    · refine .inl ⟨⟨s,hx⟩,fun acc=>?_⟩;rw[hstep acc,if_pos hx,(hf.code _ _ hca hcb).resolve_left hx]
theorem merged_spec {f:Int→Int→Int×Int} (hf:Rk f) {l l':V} (h:Gd l) (h':Gd l') (hl:l.length≤8) (hl':l'.length≤8) :
 ((∃n,(f (jg l n) (jg l' n)).2≠0)∧jh f l l'=(5,[])) ∨
 ((∀n,(f (jg l n) (jg l' n)).2=0)∧∃r,Made (fun n=>(f (jg l n) (jg l' n)).1) r∧((8<r.length∧jh f l l'=(4,[]))∨(r.length≤8∧jh f l l'=(0,r)))):=by
 have e:jh f l l'=(let r:=jT f (l.length+l'.length) l l' [];if r.1≠0 then (r.1,[]) else if 8<r.2.length then (4,[]) else (0,r.2)):=by
  rw[jh,if_neg (by rw[jaq h hl];decide),if_neg (by rw[jaq h' hl'];decide)]
 rcases merge_spec hf (l.length+l'.length) l l' (Nat.le_refl _) h h' with ⟨hn,hb⟩ | ⟨hn,r,hr,hm,_⟩
 · exact .inl ⟨hn,by rw[e,hb];rfl⟩
 · refine .inr ⟨hn,r,hm,?_⟩;rw[e,hr];by_cases h8:8<r.length
   · exact .inl ⟨h8,by simp[h8]⟩
   · exact .inr ⟨by omega,by simp[h8]⟩
theorem jcN:∀{l h:V},jv h l=true↔∀x ∈ l,x.2≤jg h x.1
 | [],h=>⟨fun _ x hx=>absurd hx (by simp),fun _=>rfl⟩
 | x::t,h=>by
  rw[jv,Bool.and_eq_true,decide_eq_true_eq,jcN,List.forall_mem_cons]
theorem Z9 {l h:V} (hl:Gd l) (hh:Gd h):jv h l=true↔∀n,jg l n≤jg h n:=by
 rw[jcN];constructor
 · intro hx n;by_cases e:jg l n=0
   · rw[e];exact(zU n hh).1
   · obtain⟨x,hm,rfl⟩:=get_mem e;rw[jao hl hm];exact hx x hm
 · intro hn x hx;have:=hn x.1;rw[jao hl hx] at this;exact this
theorem ja6 (x y:Int):(jZ x y).2=0↔y≤x:=by
 unfold jZ;split
 · simp only[true_iff];assumption
 · constructor
   · intro h;cases h
   · intro h;contradiction
theorem YN (x y:Int):(jx x y).2=0↔x+y≤9223372036854775807:=by
 unfold jx;split
 · simp only[true_iff];assumption
 · constructor
   · intro h;cases h
   · intro h;contradiction
theorem jgC {x y:Int} (h:y≤x):jZ x y=(x-y,0):=by unfold jZ;rw[if_pos h]
theorem qH {x y:Int} (h:x+y≤9223372036854775807):jx x y=(x+y,0):=by unfold jx;rw[if_pos h]
theorem qK {l l':V} (h:Gd l) (h':Gd l') (hl:l.length≤8) (hl':l'.length≤8) (hf:∀n,jg l' n≤jg l n) :
 ∃r,jh jZ l l'=(0,r)∧Made (fun n=>jg l n-jg l' n) r∧r.length≤8:=by
 rcases merged_spec jeV h h' hl hl' with ⟨⟨n,hn⟩,_⟩ | ⟨_,r,hm,hr⟩
 · exact absurd ((ja6 _ _).2 (hf n)) hn
 · have hm':Made (fun n=>jg l n-jg l' n) r:=⟨hm.1,fun n=>by rw[hm.2 n];show (jZ _ _).1=_;rw[jgC (hf n)]⟩
   have hlen:r.length≤l.length:=Gd.len hm.1 h fun n hn=>by
    rw[hm'.2 n] at hn;dsimp only at hn;have h1:=zU n h;have h2:=zU n h';have:=hf n;omega
   rcases hr with ⟨h8,_⟩ | ⟨h8,e⟩
   · omega
   · exact⟨r,e,hm',h8⟩
theorem jgm {l l':V} (h:Gd l) (h':Gd l') (hl:l.length≤8) (hl':l'.length≤8):((jh jZ l l').1=0)↔jv l l'=true:=by
 rw[Z9 h' h];constructor
 · intro e;rcases merged_spec jeV h h' hl hl' with ⟨⟨n,hn⟩,hb⟩ | ⟨hn,_⟩
   · rw[hb] at e;cases e
   · exact fun n=>(ja6 _ _).1 (hn n)
 · intro hf;obtain⟨r,e,_⟩:=qK h h' hl hl' hf;rw[e]
theorem jgj {l l' r:V} (h:Gd l) (h':Gd l') (hl:l.length≤8) (hl':l'.length≤8) (hs:∀n,jg l n+jg l' n≤9223372036854775807) (hr:Made (fun n=>jg l n+jg l' n) r) (h8:r.length≤8):jh jx l l'=(0,r):=by
 rcases merged_spec je2 h h' hl hl' with ⟨⟨n,hn⟩,_⟩ | ⟨hn,q,hm,hq⟩
 · exact absurd ((YN _ _).2 (hs n)) hn
 · have e:q=r:=Gd.ext hm.1 hr.1 fun n=>by rw[hm.2 n,hr.2 n];show (jx _ _).1=_;rw[qH (hs n)]
   subst e;rcases hq with ⟨h9,_⟩ | ⟨_,e⟩
   · omega
   · exact e
theorem Reads.fine {v:Value} {l:V} {w:World} (h:Reads w v l):zN l:=by
 obtain⟨a,cap,rfl,h1,h2,h3⟩:=h;exact h3.2.2.1
open Go.ChangeShapes Go.WideShapes Go.ChangeAt Go.RowKit Go.Deep
theorem jfO:Tryz.prog.cellsOf 105=2:=by kernel_rfl
theorem JT:Tryz.prog.cellsOf 9=1:=by kernel_rfl
theorem Y6:Tryz.prog.cellsOf 2=1:=by kernel_rfl
theorem jaF {H:Type} {enc:TypeId×Value→H} {w:World} {base fuel:Nat} {sp:Nat→Bool} {held:Bool} {cs:List Value} {x:DataW H×List MemPlace} (h:DataW.trod enc Tryz.prog w base sp held fuel 105 cs=some x) :
 ∃(s:ByteArray) (n:Int),cs=[.string s,.int .i64 n]∧s.size≤maxLen∧-9223372036854775808≤n∧n≤9223372036854775807:=by
 obtain⟨ys,m,-,-,hlen,hyl,hf⟩:=DataW.trod_struct Tryz.underlying105 h;rw[jfO] at hlen
 match cs,hlen with
 | [c0,c1],_ =>
  have h0:DataW.trod enc Tryz.prog w base sp held m 9 (([c0,c1].drop 0).take (Tryz.prog.cellsOf 9))=ys[0]?:=hf 0 _ rfl;have h1:DataW.trod enc Tryz.prog w base sp held m 2 (([c0,c1].drop 1).take (Tryz.prog.cellsOf 2))=ys[1]?:=hf 1 _ rfl;rw[JT] at h0;rw[Y6] at h1;obtain⟨y0,e0⟩:∃y,ys[0]?=some y:=⟨_,List.getElem?_eq_getElem (by rw[hyl];decide)⟩
  obtain⟨y1,e1⟩:∃y,ys[1]?=some y:=⟨_,List.getElem?_eq_getElem (by rw[hyl];decide)⟩
  rw[e0] at h0;rw[e1] at h1;obtain⟨s,q0,-,hs⟩:=DataW.trod_string Tryz.underlying9 h0;obtain⟨n,q1,-,hn⟩:=DataW.trod_int Tryz.underlying2 h1;simp only[List.drop_zero,List.take_succ_cons,List.take_zero,List.cons.injEq,and_true,List.drop_succ_cons] at q0 q1;subst q0;subst q1;have:=bounds_i64 hn;exact⟨s,n,rfl,hs,this.1,this.2⟩
theorem jdP {l m:V} {i:Nat} (h:i<l.length):nm (l++m) i=nm l i∧qn (l++m) i=qn l i:=by
 unfold nm qn;simp[List.getD,List.getElem?_append_left h]
theorem jdA (l:V) (s:ByteArray) (n:Int):nm (l++[(s,n)]) l.length=s∧qn (l++[(s,n)]) l.length=n:=by
 unfold nm qn;simp[List.getD]
theorem zq {H:Type} {enc:TypeId×Value→H} {w:World} {base fuel:Nat} {sp:Nat→Bool} {held:Bool} {v:Value} {x:DataW H×List MemPlace} (h:DataW.trod enc Tryz.prog w base sp held fuel 28 [v]=some x) :
 ∃l,Reads w v l:=by
 rcases open_slice Tryz.underlying28 h with ⟨hcs,-⟩ | ⟨a,len,cap,m,n,D,Pl,hcs,hb,hl,hm,hmm,hx,hi⟩
 · cases hcs;exact⟨[],Reads.nil w⟩
 · cases hcs
   have hlm:len≤m:=by rw[hmm];split<;>omega
   have key:∀k,k≤len→∃l:V,l.length=k∧∀i,i<k→((nm l i).size≤maxLen∧-9223372036854775808≤qn l i∧qn l i≤9223372036854775807) ∧
    w.cell? ((a.add (i*2)).add 0)=some (.string (nm l i))∧w.cell? ((a.add (i*2)).add 1)=some (.int .i64 (qn l i)):=by
    intro k
    induction k with
    | zero=>exact fun _=>⟨[],rfl,fun i hi=>absurd hi (by omega)⟩
    | succ k ih =>
     intro hk;obtain⟨l,e,hall⟩:=ih (by omega);obtain⟨cs',hc,ht'⟩:=hi k (by omega);obtain⟨s,q,rfl,b1,b2,b3⟩:=jaF ht';rw[jfO] at hc;obtain⟨-,-,hat⟩:=World.cells?_some hc;refine⟨l++[(s,q)],by simp[e],fun i hi=>?_⟩;by_cases e2:i=k
     · subst e2;subst e;rw[(jdA l s q).1,(jdA l s q).2];exact⟨⟨b1,b2,b3⟩,hat 0 (by decide),hat 1 (by decide)⟩
     · rw[(jdP (by omega)).1,(jdP (by omega)).2];exact hall i (by omega)
   obtain⟨l,e,hall⟩:=key len (Nat.le_refl _);subst e;refine⟨l,_,cap,rfl,hl,hm,rfl,Nat.le_trans hl hm,fun i hi=>(hall i hi).1,?_⟩;by_cases h0:l.length=0
   · exact .inl h0
   · obtain⟨b,off,spot⟩:=a;have hc:=(hall 0 (by omega)).2.1;have hspot:spot=none:=by simpa [Addr.add] using World.cell?_spot hc
     subst hspot;have hcell:∀i,i<l.length→w.cell? ⟨b,off+i*2,none⟩=some (.string (nm l i))∧w.cell? ⟨b,off+i*2+1,none⟩=some (.int .i64 (qn l i)):=fun i hi=>by
      have c:=(hall i hi).2;by_cases hi0:i=0
      · subst hi0;simpa [Addr.add] using c
      · have h2:¬i*2=0:=by omega
        simpa [Addr.add,h2] using c
     exact .inr ⟨b,off,rfl,World.block_lt_of_cell? _ _ (hcell 0 (by omega)).1,hcell⟩
end Go.Proofs.YtgfoenfaohhjcabGreat.Vec
namespace Go.Proofs.YtgfoenfaohhjcabGreat
open Go.RowKit
abbrev PL:=List (ByteArray×ByteArray)
abbrev TL:=List (Int×ByteArray×ByteArray)
def jF (prev:Option ByteArray) (s:ByteArray):Bool:=match prev with | none=>false | some p=>leS s p
def ZG (l:PL) (k:Nat):Option ByteArray:=if k=0 then none else (l[k-1]?).map (·.1)
def zu:Option ByteArray→PL→Int
 | _,[]=>0
 | prev,x::t=>if (isName x.1&&isName x.2)=false then 3 else if jF prev x.1=true then 13 else zu (some x.1) t
def Jl (l:PL):Int:=if 8<l.length then 4 else zu none l
theorem Zz {l:PL} {k:Nat} (h:k=0) (s:ByteArray):jF (ZG l k) s=false:=by unfold ZG;rw[if_pos h];rfl
theorem Zx {l:PL} {k:Nat} {x y:ByteArray} (h:¬k=0) (hx:l[k-1]?=some (x,y)) (s:ByteArray):jF (ZG l k) s=leS s x:=by unfold ZG;rw[if_neg h,hx];rfl
theorem ZP {l:PL} {k:Nat} {x y:ByteArray} (hx:l[k]?=some (x,y)):ZG l (k+1)=some x:=by unfold ZG;rw[if_neg (by omega),Nat.add_sub_cancel,hx];rfl
theorem ZJ {p:Option ByteArray} {x y:ByteArray} {t:PL} (n:(isName x&&isName y)=false):zu p ((x,y)::t)=3:=by rw[zu,if_pos n]
theorem Yl {p:Option ByteArray} {x y:ByteArray} {t:PL} (n1:isName x=true) (n2:isName y=true) (b:jF p x=true):zu p ((x,y)::t)=13:=by
 rw[zu,if_neg (by dsimp only;rw[n1,n2];decide),if_pos b]
theorem JN {p:Option ByteArray} {x y:ByteArray} {t:PL} (n1:isName x=true) (n2:isName y=true) (b:jF p x=false):zu p ((x,y)::t)=zu (some x) t:=by
 rw[zu,if_neg (by dsimp only;rw[n1,n2];decide),if_neg (by dsimp only;rw[b];decide)]
theorem XW (a:Option Addr) (len cap:Nat) (l:PL) (w:World) (hr:jj jD w a len l) :
 Calls Tryz.prog 138 #[.slice a len cap] w fun e w'=>e=.returned (.int .i64 (Jl l))∧Kept w w':=by
 have hl:=hr.1;have hm:=hr.2.1;unfold maxLen at hm;by_cases h8:len≤8
 · have HV:=lH (show Jl l=zu none l by unfold Jl;rw[if_neg (by omega)]);rcases hr.form with h0 | ⟨b,off,rfl⟩
   · subst h0;have HE:=lH (show Jl l=0 by rw[HV.out];rw[List.eq_nil_of_length_eq_zero hl];rfl);clear hr hl;go_enter Tryz.func138,Tryz.ntmps138;go_wp2;refine wp_loop_rounds 1 ?_;rw[rounds_succ];go_wp2;go_ret;exact⟨jb HE.out.symm,Kept.refl _⟩
   · have HR:=lH hr;have HL:=lH hl;clear hr hl;go_enter Tryz.func138,Tryz.ntmps138;go_wp2;go_loopw [10] (fun i wr=>∃k:Nat,k≤len∧i=.int .i64 k∧zu (ZG l k) (l.drop k)=zu none l∧Kept w wr) (fun i _=>len-(intOf i).toNat)
     case atStart=>exact⟨0,Nat.zero_le _,rfl,rfl,Kept.refl _⟩
     case round =>
      obtain⟨k,hk,rfl,hrest,hK⟩:=hrel;by_cases hlt:k<len
      · obtain⟨x,y,hx,hd,hb,hz,hz2,c1,c2⟩:=(HR.out.kept hK).pair hlt;have HX:=lH hx;have HK:=lH hK;have HT:=lH (hrest.symm.trans (congrArg (zu (ZG l k)) hd));have HS:=lH (HV.out.trans HT.out);clear hK hrest hx hd;by_cases n1:isName x=true
        · by_cases n2:isName y=true
          · have N1:=lH n1;have N2:=lH n2;by_cases h0:k=0
            · have hd:decide (0<k)=false:=by subst h0;decide
              have HP:=lH (Zz (l:=l) h0 x);clear h0;go_wp2_with (go_at_call 136;refine(jY _ _ (by assumption)).mono ?_;rintro e w' ⟨rfl,rfl⟩)
              go_quiet (fail)
              go_wp2;go_roundw
              case rel=>exact⟨k+1,by omega,by go_num,by rw[ZP HX.out];exact(JN N1.out N2.out HP.out).symm.trans HT.out.symm,(HK.out.trans (zY _ _ _))⟩
              case measure=>simp[intOf];omega
            · have hd:decide (0<k)=true:=by simp;omega
              have g1:0≤(k:Int)-1:=by omega
              have g2:(k:Int)-1<(len:Int):=by omega
              have g3:((k:Int)-1).toNat=k-1:=by omega
              obtain⟨px,py,hpx,_,_,_,_,d1,d2⟩:=(HR.out.kept HK.out).pair (show k-1<len by omega);have HP:=lH (Zx (l:=l) h0 hpx x);clear hpx;by_cases n3:leS x px=true
              · have n3':(Op.bytesLess x.toList px.toList||x.toList==px.toList)=true:=n3;have N3:=lH n3;clear n3;go_wp2_with (go_at_call 136;refine(jY _ _ (by assumption)).mono ?_;rintro e w' ⟨rfl,rfl⟩)
                go_quiet (fail)
                go_wp2;go_ret;exact⟨jb (HS.out.trans (Yl N1.out N2.out (HP.out.trans N3.out))).symm,(HK.out.trans (zY _ _ _))⟩
              · have n3:leS x px=false:=by simpa using n3
                have n3':(Op.bytesLess x.toList px.toList||x.toList==px.toList)=false:=n3;have N3:=lH n3;clear n3;go_wp2_with (go_at_call 136;refine(jY _ _ (by assumption)).mono ?_;rintro e w' ⟨rfl,rfl⟩)
                go_quiet (fail)
                go_wp2;go_roundw
                case rel=>exact⟨k+1,by omega,by go_num,by rw[ZP HX.out];exact(JN N1.out N2.out (HP.out.trans N3.out)).symm.trans HT.out.symm,(HK.out.trans (zY _ _ _))⟩
                case measure=>simp[intOf];omega
          · have n2:isName y=false:=by simpa using n2
            have N:=lH (show (isName x&&isName y)=false by rw[n2,Bool.and_false]);go_wp2_with (go_at_call 136;refine(jY _ _ (by assumption)).mono ?_;rintro e w' ⟨rfl,rfl⟩)
            go_ret;exact⟨jb (HS.out.trans (ZJ N.out)).symm,HK.out.trans (ja _ _)⟩
        · have n1:isName x=false:=by simpa using n1
          have N:=lH (show (isName x&&isName y)=false by rw[n1,Bool.false_and]);go_wp2_with (go_at_call 136;refine(jY x _ hz).mono ?_;rintro e w' ⟨rfl,rfl⟩)
          go_ret;exact⟨jb (HS.out.trans (ZJ N.out)).symm,HK.out.trans (ja _ _)⟩
      · have HK:=lH hK;have HS:=lH ((HV.out.trans hrest.symm).trans (congrArg (zu (ZG l k)) (zp (by rw[HL.out];exact hlt))));clear hK hrest;go_wp2;go_ret;exact⟨jb (HS.out.trans rfl).symm,HK.out⟩
 · have HV:=lH (show Jl l=4 by unfold Jl;rw[if_pos (by omega)]);have h9:8<len:=by omega
   clear h8 hr hl;go_enter Tryz.func138,Tryz.ntmps138;go_wp2;go_ret;exact⟨jb HV.out.symm,Kept.refl _⟩
abbrev TV (o:Int) (x y:ByteArray):Value:=.agg #[.int .i64 o,.string x,.string y]
def Ja (t:Int×ByteArray×ByteArray):Int :=
 if t.1=1∨t.1=2 then (if (isName t.2.1&&isName t.2.2)=true then 0 else 3)
 else if t.1=3∨t.1=4 then (if (isName t.2.1&&eqS t.2.2 ByteArray.empty)=true then 0 else 3)
 else 1
def JY:TL→Int
 | []=>0
 | t::r=>if Ja t≠0 then Ja t else JY r
def JF (l:TL):Int:=if 8<l.length then 4 else JY l
theorem jeX (w:World):Calls Tryz.prog 183 #[.bool true] w fun e w'=>e=.returned (.int .i64 0)∧w=w':=by
 go_enter Tryz.func183,Tryz.ntmps183;go_wp2;go_ret;exact⟨rfl,rfl⟩
theorem X3 (w:World):Calls Tryz.prog 183 #[.bool false] w fun e w'=>e=.returned (.int .i64 3)∧w=w':=by
 go_enter Tryz.func183,Tryz.ntmps183;go_wp2;go_ret;exact⟨rfl,rfl⟩
theorem Ji {o:Int} {x y:ByteArray}:Ja (o,x,y)=if o=1∨o=2 then (if (isName x&&isName y)=true then 0 else 3)
 else if o=3∨o=4 then (if (isName x&&eqS y ByteArray.empty)=true then 0 else 3) else 1:=rfl
theorem jd8 (o:Int) (x y:ByteArray) (w:World) (ho:o=1∨o=2) (hx:x.size≤maxLen) (hy:y.size≤maxLen) :
 Calls Tryz.prog 164 #[TV o x y] w fun e w'=>e=.returned (.int .i64 (Ja (o,x,y)))∧Kept w w':=by
 by_cases n:(isName x&&isName y)=true
 · have HV:=lH (show Ja (o,x,y)=0 by rw[Ji,if_pos ho,if_pos n]);have n1:isName x=true:=by rw[Bool.and_eq_true] at n;exact n.1
   have n2:isName y=true:=by rw[Bool.and_eq_true] at n;exact n.2
   clear n;rcases ho with rfl | rfl <;>
    (go_enter Tryz.func164,Tryz.ntmps164
     go_wp2_with (first | (go_at_call 136;refine(jY _ _ (by assumption)).mono ?_;rintro e w' ⟨rfl,rfl⟩) | (go_at_call 183;refine(jeX _).mono ?_;rintro e w' ⟨rfl,rfl⟩))
     go_ret;exact⟨jb HV.out.symm,ja _ _⟩)
 · have HV:=lH (show Ja (o,x,y)=3 by rw[Ji,if_pos ho,if_neg n]);by_cases n1:isName x=true
   · have n2:isName y=false:=by rw[n1,Bool.true_and] at n;simpa using n
     clear n;rcases ho with rfl | rfl <;>
      (go_enter Tryz.func164,Tryz.ntmps164
       go_wp2_with (first | (go_at_call 136;refine(jY _ _ (by assumption)).mono ?_;rintro e w' ⟨rfl,rfl⟩) | (go_at_call 183;refine(X3 _).mono ?_;rintro e w' ⟨rfl,rfl⟩))
       go_ret;exact⟨jb HV.out.symm,ja _ _⟩)
   · have n1:isName x=false:=by simpa using n1
     clear n;rcases ho with rfl | rfl <;>
      (go_enter Tryz.func164,Tryz.ntmps164
       go_wp2_with (first | (go_at_call 136;refine(jY _ _ (by assumption)).mono ?_;rintro e w' ⟨rfl,rfl⟩) | (go_at_call 183;refine(X3 _).mono ?_;rintro e w' ⟨rfl,rfl⟩))
       go_ret;exact⟨jb HV.out.symm,ja _ _⟩)
theorem jgR (o:Int) (x y:ByteArray) (w:World) (ho:o=3∨o=4) (hx:x.size≤maxLen) (hy:y.size≤maxLen) :
 Calls Tryz.prog 164 #[TV o x y] w fun e w'=>e=.returned (.int .i64 (Ja (o,x,y)))∧Kept w w':=by
 have ho':¬(o=1∨o=2):=by omega
 by_cases n:(isName x&&eqS y ByteArray.empty)=true
 · have HV:=lH (show Ja (o,x,y)=0 by rw[Ji,if_neg ho',if_pos ho,if_pos n]);have n1:isName x=true:=by rw[Bool.and_eq_true] at n;exact n.1
   have n2:(y.toList==([]:List UInt8))=true:=by rw[Bool.and_eq_true] at n;have:=n.2;unfold eqS at this;simpa using this
   clear n ho';rcases ho with rfl | rfl <;>
    (go_enter Tryz.func164,Tryz.ntmps164
     go_wp2_with (first | (go_at_call 136;refine(jY _ _ (by assumption)).mono ?_;rintro e w' ⟨rfl,rfl⟩) | (go_at_call 183;refine(jeX _).mono ?_;rintro e w' ⟨rfl,rfl⟩))
     go_ret;exact⟨jb HV.out.symm,ja _ _⟩)
 · have HV:=lH (show Ja (o,x,y)=3 by rw[Ji,if_neg ho',if_pos ho,if_neg n]);clear ho';by_cases n1:isName x=true
   · have n2:(y.toList==([]:List UInt8))=false:=by rw[n1,Bool.true_and] at n;unfold eqS at n;simpa using n
     clear n;rcases ho with rfl | rfl <;>
      (go_enter Tryz.func164,Tryz.ntmps164
       go_wp2_with (first | (go_at_call 136;refine(jY _ _ (by assumption)).mono ?_;rintro e w' ⟨rfl,rfl⟩) | (go_at_call 183;refine(X3 _).mono ?_;rintro e w' ⟨rfl,rfl⟩))
       go_ret;exact⟨jb HV.out.symm,ja _ _⟩)
   · have n1:isName x=false:=by simpa using n1
     clear n;rcases ho with rfl | rfl <;>
      (go_enter Tryz.func164,Tryz.ntmps164
       go_wp2_with (first | (go_at_call 136;refine(jY _ _ (by assumption)).mono ?_;rintro e w' ⟨rfl,rfl⟩) | (go_at_call 183;refine(X3 _).mono ?_;rintro e w' ⟨rfl,rfl⟩))
       go_ret;exact⟨jb HV.out.symm,ja _ _⟩)
theorem jd4 (o:Int) (x y:ByteArray) (w:World) (ho:¬(o=1∨o=2)) (ho':¬(o=3∨o=4)) :
 Calls Tryz.prog 164 #[TV o x y] w fun e w'=>e=.returned (.int .i64 (Ja (o,x,y)))∧Kept w w':=by
 have HV:=lH (show Ja (o,x,y)=1 by rw[Ji,if_neg ho,if_neg ho']);have e1:(o==1)=false:=by (have:o≠1:=by omega);simpa using this
 have e2:(o==2)=false:=by (have:o≠2:=by omega);simpa using this
 have e3:(o==3)=false:=by (have:o≠3:=by omega);simpa using this
 have e4:(o==4)=false:=by (have:o≠4:=by omega);simpa using this
 clear ho ho';go_enter Tryz.func164,Tryz.ntmps164;go_wp2;go_ret;exact⟨jb HV.out.symm,ja _ _⟩
theorem XB (o:Int) (x y:ByteArray) (w:World) (hx:x.size≤maxLen) (hy:y.size≤maxLen) :
 Calls Tryz.prog 164 #[TV o x y] w fun e w'=>e=.returned (.int .i64 (Ja (o,x,y)))∧Kept w w':=by
 by_cases h1:o=1∨o=2
 · exact jd8 o x y w h1 hx hy
 · by_cases h2:o=3∨o=4
   · exact jgR o x y w h2 hx hy
   · exact jd4 o x y w h1 h2
theorem qX (t:Int×ByteArray×ByteArray) (r:TL):JY (t::r)=if Ja t≠0 then Ja t else JY r:=rfl
theorem jcH (a:Option Addr) (len cap:Nat) (l:TL) (w:World) (hr:jj jL w a len l) :
 Calls Tryz.prog 142 #[.slice a len cap] w fun e w'=>e=.returned (.int .i64 (JF l))∧Kept w w':=by
 have hl:=hr.1;have hm:=hr.2.1;unfold maxLen at hm;by_cases h8:len≤8
 · have HV:=lH (show JF l=JY l by unfold JF;rw[if_neg (by omega)]);rcases hr.form with h0 | ⟨b,off,rfl⟩
   · subst h0;have HE:=lH (show JF l=0 by rw[HV.out];rw[List.eq_nil_of_length_eq_zero hl];rfl);clear hr hl;go_enter Tryz.func142,Tryz.ntmps142;go_wp2;refine wp_loop_rounds 1 ?_;rw[rounds_succ];go_wp2;go_ret;exact⟨jb HE.out.symm,Kept.refl _⟩
   · have HR:=lH hr;have HL:=lH hl;clear hr hl;go_enter Tryz.func142,Tryz.ntmps142;go_wp2;go_loopw [11] (fun i wr=>∃k:Nat,k≤len∧i=.int .i64 k∧JY (l.drop k)=JY l∧Kept w wr) (fun i _=>len-(intOf i).toNat)
     case atStart=>exact⟨0,Nat.zero_le _,rfl,rfl,Kept.refl _⟩
     case round =>
      obtain⟨k,hk,rfl,hrest,hK⟩:=hrel;by_cases hlt:k<len
      · obtain⟨o,x,y,hx,hd,hb,ho,hz,hz2,c1,c2,c3⟩:=(HR.out.kept hK).term hlt;have HK:=lH hK;have HT:=lH (hrest.symm.trans ((congrArg JY hd).trans (qX _ _)));have HS:=lH (HV.out.trans HT.out);clear hK hrest hx hd;by_cases n:Ja (o,x,y)=0
        · have N:=lH n;have n':(Ja (o,x,y) != 0)=false:=by simpa using n
          clear n;go_wp2_with (go_at_call 164;refine(XB o x y _ hz hz2).mono ?_;rintro e w1 ⟨rfl,k1⟩;have K1:=lH k1;clear k1)
          go_roundw
          case rel=>exact⟨k+1,by omega,by go_num,(HT.out.trans (if_neg (by rw[N.out];decide))).symm,HK.out.trans ((ja _ _).trans K1.out)⟩
          case measure=>simp[intOf];omega
        · have N:=lH n;have n':(Ja (o,x,y) != 0)=true:=by simpa using n
          clear n;go_wp2_with (go_at_call 164;refine(XB o x y _ hz hz2).mono ?_;rintro e w1 ⟨rfl,k1⟩;have K1:=lH k1;clear k1)
          go_ret;exact⟨jb (HS.out.trans (if_pos N.out)).symm,HK.out.trans ((ja _ _).trans K1.out)⟩
      · have HK:=lH hK;have HS:=lH ((HV.out.trans hrest.symm).trans (congrArg JY (zp (by rw[HL.out];exact hlt))));clear hK hrest;go_wp2;go_ret;exact⟨jb (HS.out.trans rfl).symm,HK.out⟩
 · have HV:=lH (show JF l=4 by unfold JF;rw[if_pos (by omega)]);have h9:8<len:=by omega
   clear h8 hr hl;go_enter Tryz.func142,Tryz.ntmps142;go_wp2;go_ret;exact⟨jb HV.out.symm,Kept.refl _⟩
def zF:PL→ByteArray→Option ByteArray
 | [],_=>none
 | x::t,n=>if eqS x.1 n=true then some x.2 else zF t n
def YH (s:PL) (n:ByteArray):ByteArray:=(zF s n).getD ByteArray.empty
def ZM (s:PL) (n:ByteArray):Bool:=(zF s n).isSome
theorem je4 (x y:ByteArray) (t:PL) (n:ByteArray):zF ((x,y)::t) n=if eqS x n=true then some y else zF t n:=rfl
theorem jaN {s:PL} {n:ByteArray} {o:Option ByteArray} (h:zF s n=o):Ending.returned (.tuple #[.string (o.getD ByteArray.empty),.bool o.isSome])=.returned (.tuple #[.string (YH s n),.bool (ZM s n)]):=by
 unfold YH ZM;rw[h]
theorem ja4 {s:PL} {n v:ByteArray} (hf:∀x ∈ s,jD.fine x) (h:zF s n=some v):v.size≤maxLen:=by
 induction s with
 | nil=>cases h
 | cons x t ih =>
  rw[zF] at h;split at h
  · injection h with h;subst h;exact(hf x (by simp)).2
  · exact ih (fun y hy=>hf y (by simp[hy])) h
theorem Yx (a:Option Addr) (len cap:Nat) (l:PL) (n:ByteArray) (w:World) (hr:jj jD w a len l) :
 Calls Tryz.prog 184 #[.slice a len cap,.string n] w fun e w'=>e=.returned (.tuple #[.string (YH l n),.bool (ZM l n)])∧Kept w w':=by
 have hl:=hr.1;have hm:=hr.2.1;unfold maxLen at hm;rcases hr.form with h0 | ⟨b,off,rfl⟩
 · subst h0;have HE:=lH (show zF l n=none by rw[List.eq_nil_of_length_eq_zero hl];rfl);clear hr hl;go_enter Tryz.func184,Tryz.ntmps184;go_wp2;refine wp_loop_rounds 1 ?_;rw[rounds_succ];go_wp2;go_ret2
   exact⟨jaN HE.out,Kept.refl _⟩
 · have HR:=lH hr;have HL:=lH hl;clear hr hl;go_enter Tryz.func184,Tryz.ntmps184;go_wp2;go_loopw [10] (fun i wr=>∃k:Nat,k≤len∧i=.int .i64 k∧zF (l.drop k) n=zF l n∧Kept w wr) (fun i _=>len-(intOf i).toNat)
   case atStart=>exact⟨0,Nat.zero_le _,rfl,rfl,Kept.refl _⟩
   case round =>
    obtain⟨k,hk,rfl,hrest,hK⟩:=hrel;by_cases hlt:k<len
    · obtain⟨x,y,hx,hd,hb,hz,hz2,c1,c2⟩:=(HR.out.kept hK).pair hlt;have HK:=lH hK;have HT:=lH (hrest.symm.trans ((congrArg (fun z=>zF z n) hd).trans (je4 _ _ _ _)));clear hK hrest hx hd;by_cases e:eqS x n=true
      · have E:=lH e;have e':(x.toList==n.toList)=true:=e;clear e;go_wp2;go_ret2
        exact⟨jaN (HT.out.trans (if_pos E.out)),HK.out.trans (ja _ _)⟩
      · have E:=lH e;have e':(x.toList==n.toList)=false:=by unfold eqS at e;simpa using e
        clear e;go_wp2;go_roundw
        case rel=>exact⟨k+1,by omega,by go_num,(HT.out.trans (if_neg E.out)).symm,HK.out.trans (ja _ _)⟩
        case measure=>simp[intOf];omega
    · have HK:=lH hK;have HS:=lH (hrest.symm.trans (congrArg (fun z=>zF z n) (zp (by rw[HL.out];exact hlt))));clear hK hrest;go_wp2;go_ret2
      exact⟨jaN (HS.out.trans rfl),HK.out⟩
def Zj (s:PL) (t:Int×ByteArray×ByteArray):Bool :=
 if t.1=1 then ZM s t.2.1&&eqS (YH s t.2.1) t.2.2
 else if t.1=2 then !ZM s t.2.1||!eqS (YH s t.2.1) t.2.2
 else if t.1=3 then ZM s t.2.1
 else if t.1=4 then !ZM s t.2.1 else false
theorem Yj {s:PL} {o:Int} {x y:ByteArray}:Zj s (o,x,y)=if o=1 then ZM s x&&eqS (YH s x) y else if o=2 then !ZM s x||!eqS (YH s x) y else if o=3 then ZM s x else if o=4 then !ZM s x else false:=rfl
theorem jbl (o:Int) (x y:ByteArray) (a:Option Addr) (len cap:Nat) (s:PL) (w:World) (hr:jj jD w a len s) :
 Calls Tryz.prog 174 #[TV o x y,.slice a len cap] w fun e w'=>e=.returned (.bool (Zj s (o,x,y)))∧Kept w w':=by
 have HG:=lH (fun (w':World) (k:Kept w w')=>Yx a len cap s x w' (hr.kept k));obtain⟨v,hv⟩:∃v,YH s x=v:=⟨_,rfl⟩
 obtain⟨h,hh⟩:∃h,ZM s x=h:=⟨_,rfl⟩
 obtain⟨q,hq⟩:∃q,eqS v y=q:=⟨_,rfl⟩
 have hq':(v.toList==y.toList)=q:=hq;rw[hv,hh] at HG;clear hr;by_cases h1:o=1
 · subst h1;have HV:=lH (show Zj s (1,x,y)=(h&&q) by rw[Yj,if_pos rfl,hv,hh,hq]);clear hv hh hq
   cases h<;>cases q <;>
   (go_enter Tryz.func174,Tryz.ntmps174
    go_wp2_with (go_at_call 184;refine(HG.out _ (ja _ _)).mono ?_;rintro e w1 ⟨rfl,k1⟩;have K1:=lH k1;have c3:=cell_later k1 (show (w.alloc (.cells #[.int .i64 1,.string x,.string y] 74)).cell? ⟨w.heap.size,2,none⟩=some (.string y) by go_simp);have c0:=cell_later k1 (show (w.alloc (.cells #[.int .i64 1,.string x,.string y] 74)).cell? ⟨w.heap.size,0,none⟩=some (.int .i64 1) by go_simp);clear k1)
    go_ret;exact⟨je HV.out.symm,(ja _ _).trans K1.out⟩)
 · by_cases h2:o=2
   · subst h2;have HV:=lH (show Zj s (2,x,y)=(!h||!q) by rw[Yj,if_neg (by decide),if_pos rfl,hv,hh,hq]);clear hv hh hq h1
     cases h<;>cases q <;>
     (go_enter Tryz.func174,Tryz.ntmps174
      go_wp2_with (go_at_call 184;refine(HG.out _ (ja _ _)).mono ?_;rintro e w1 ⟨rfl,k1⟩;have K1:=lH k1;have c3:=cell_later k1 (show (w.alloc (.cells #[.int .i64 2,.string x,.string y] 74)).cell? ⟨w.heap.size,2,none⟩=some (.string y) by go_simp);have c0:=cell_later k1 (show (w.alloc (.cells #[.int .i64 2,.string x,.string y] 74)).cell? ⟨w.heap.size,0,none⟩=some (.int .i64 2) by go_simp);clear k1)
      go_ret;exact⟨je HV.out.symm,(ja _ _).trans K1.out⟩)
   · by_cases h3:o=3
     · subst h3;have HV:=lH (show Zj s (3,x,y)=h by rw[Yj,if_neg (by decide),if_neg (by decide),if_pos rfl,hh]);clear hv hh hq h1 h2;go_enter Tryz.func174,Tryz.ntmps174;go_wp2_with (go_at_call 184;refine(HG.out _ (ja _ _)).mono ?_;rintro e w1 ⟨rfl,k1⟩;have K1:=lH k1;have c0:=cell_later k1 (show (w.alloc (.cells #[.int .i64 3,.string x,.string y] 74)).cell? ⟨w.heap.size,0,none⟩=some (.int .i64 3) by go_simp);clear k1)
       go_ret;exact⟨je HV.out.symm,(ja _ _).trans K1.out⟩
     · by_cases h4:o=4
       · subst h4;have HV:=lH (show Zj s (4,x,y)=!h by rw[Yj,if_neg (by decide),if_neg (by decide),if_neg (by decide),if_pos rfl,hh]);clear hv hh hq h1 h2 h3;go_enter Tryz.func174,Tryz.ntmps174;go_wp2_with (go_at_call 184;refine(HG.out _ (ja _ _)).mono ?_;rintro e w1 ⟨rfl,k1⟩;have K1:=lH k1;have c0:=cell_later k1 (show (w.alloc (.cells #[.int .i64 4,.string x,.string y] 74)).cell? ⟨w.heap.size,0,none⟩=some (.int .i64 4) by go_simp);clear k1)
         go_ret;exact⟨je HV.out.symm,(ja _ _).trans K1.out⟩
       · have HV:=lH (show Zj s (o,x,y)=false by rw[Yj,if_neg h1,if_neg h2,if_neg h3,if_neg h4]);have e1:(o==1)=false:=by simpa using h1
         have e2:(o==2)=false:=by simpa using h2
         have e3:(o==3)=false:=by simpa using h3
         have e4:(o==4)=false:=by simpa using h4
         clear hv hh hq h1 h2 h3 h4;go_enter Tryz.func174,Tryz.ntmps174;go_wp2_with (go_at_call 184;refine(HG.out _ (ja _ _)).mono ?_;rintro e w1 ⟨rfl,k1⟩;have K1:=lH k1;have c0:=cell_later k1 (show (w.alloc (.cells #[.int .i64 o,.string x,.string y] 74)).cell? ⟨w.heap.size,0,none⟩=some (.int .i64 o) by go_simp);clear k1)
         go_ret;exact⟨je HV.out.symm,(ja _ _).trans K1.out⟩
def J5 (l:TL) (s:PL):Bool:=l.all (Zj s)
theorem jdY (t:Int×ByteArray×ByteArray) (r:TL) (s:PL):J5 (t::r) s=(Zj s t&&J5 r s):=rfl
theorem jfT (a a':Option Addr) (len cap len' cap':Nat) (l:TL) (s:PL) (w:World) (hr:jj jL w a len l) (hr':jj jD w a' len' s) :
 Calls Tryz.prog 155 #[.slice a len cap,.slice a' len' cap'] w fun e w'=>e=.returned (.bool (J5 l s))∧Kept w w':=by
 have hl:=hr.1;have hm:=hr.2.1;unfold maxLen at hm;rcases hr.form with h0 | ⟨b,off,rfl⟩
 · subst h0;have HE:=lH (show J5 l s=true by rw[List.eq_nil_of_length_eq_zero hl];rfl);clear hr hl hr';go_enter Tryz.func155,Tryz.ntmps155;go_wp2;refine wp_loop_rounds 1 ?_;rw[rounds_succ];go_wp2;go_ret;exact⟨je HE.out.symm,Kept.refl _⟩
 · have HR:=lH hr;have HR':=lH hr';have HL:=lH hl;clear hr hl hr';go_enter Tryz.func155,Tryz.ntmps155;go_wp2;go_loopw [9] (fun i wr=>∃k:Nat,k≤len∧i=.int .i64 k∧J5 (l.drop k) s=J5 l s∧Kept w wr) (fun i _=>len-(intOf i).toNat)
   case atStart=>exact⟨0,Nat.zero_le _,rfl,rfl,Kept.refl _⟩
   case round =>
    obtain⟨k,hk,rfl,hrest,hK⟩:=hrel;by_cases hlt:k<len
    · obtain⟨o,x,y,hx,hd,hb,ho,hz,hz2,c1,c2,c3⟩:=(HR.out.kept hK).term hlt;have HK:=lH hK;have HT:=lH (hrest.symm.trans ((congrArg (fun z=>J5 z s) hd).trans (jdY _ _ _)));clear hK hrest hx hd;by_cases n:Zj s (o,x,y)=true
      · have N:=lH n;go_wp2_with (go_at_call 174;refine(jbl o x y a' len' cap' s _ ((HR'.out.kept HK.out).kept (ja _ _))).mono ?_;rintro e w1 ⟨rfl,k1⟩;have K1:=lH k1;clear k1)
        go_roundw
        case rel=>exact⟨k+1,by omega,by go_num,(HT.out.trans (by rw[N.out];exact Bool.true_and _)).symm,HK.out.trans ((ja _ _).trans K1.out)⟩
        case measure=>simp[intOf];omega
      · have n:Zj s (o,x,y)=false:=by simpa using n
        have N:=lH n;go_wp2_with (go_at_call 174;refine(jbl o x y a' len' cap' s _ ((HR'.out.kept HK.out).kept (ja _ _))).mono ?_;rintro e w1 ⟨rfl,k1⟩;have K1:=lH k1;clear k1)
        go_ret;exact⟨je (HT.out.trans (by rw[N.out];exact Bool.false_and _)).symm,HK.out.trans ((ja _ _).trans K1.out)⟩
    · have HK:=lH hK;have HS:=lH (hrest.symm.trans (congrArg (fun z=>J5 z s) (zp (by rw[HL.out];exact hlt))));clear hK hrest;go_wp2;go_ret;exact⟨je (HS.out.trans rfl).symm,HK.out⟩
abbrev NT:=ByteArray×ByteArray×Bool
abbrev NL:=List NT
abbrev NV (x y:ByteArray) (b:Bool):Value:=.agg #[.string x,.string y,.bool b]
theorem jaR (x y:ByteArray) (b:Bool) (u:Value) (h:u ∈ [Value.string x,Value.string y,Value.bool b]):u.oneCell'=true:=by
 have e:u=Value.string x∨u=Value.string y∨u=Value.bool b:=by simpa using h
 rcases e with e | e | e<;>rw[e]<;>rfl
def ju:Lay NT:={ m:=3,cs:=fun x=>[.string x.1,.string x.2.1,.bool x.2.2],fine:=fun x=>x.1.size≤maxLen∧x.2.1.size≤maxLen,len:=fun _=>rfl,one:=fun x=>jaR x.1 x.2.1 x.2.2,pos:=by decide }
theorem jj.tri {w:World} {b off len:Nat} {l:NL} {k:Nat} (h:jj ju w (some ⟨b,off,none⟩) len l) (hk:k<len) :
 ∃(x y:ByteArray) (m:Bool),l[k]?=some (x,y,m)∧l.drop k=(x,y,m)::l.drop (k+1)∧b<w.heap.size∧x.size≤maxLen∧y.size≤maxLen ∧
  w.cell? ⟨b,off+k*3,none⟩=some (.string x)∧w.cell? ⟨b,off+k*3+1,none⟩=some (.string y)∧w.cell? ⟨b,off+k*3+2,none⟩=some (.bool m):=by
 obtain⟨⟨x,y,m⟩,h1,h2,h3,h4,h5⟩:=h.cells hk;exact⟨x,y,m,h1,h2,h3,h4.1,h4.2,h5 0 _ rfl,h5 1 _ rfl,h5 2 _ rfl⟩
def zE (t z:NT):Bool:=eqS z.1 t.1&&eqS z.2.1 t.2.1
def Jc:NL→NL→Int
 | _,[]=>0
 | pre,x::t=>if (isName x.1&&isName x.2.1)=false then 3 else if pre.any (zE x)=true then 6 else Jc (pre++[x]) t
def JU (l:NL):Int:=if 8<l.length then 4 else Jc [] l
theorem YR {pre:NL} {x:NT} {t:NL} (n:(isName x.1&&isName x.2.1)=false):Jc pre (x::t)=3:=by rw[Jc,if_pos n]
theorem qW {pre:NL} {x:NT} {t:NL} (n1:isName x.1=true) (n2:isName x.2.1=true) (b:pre.any (zE x)=true):Jc pre (x::t)=6:=by
 rw[Jc,if_neg (by rw[n1,n2];decide),if_pos b]
theorem jbh {pre:NL} {x:NT} {t:NL} (n1:isName x.1=true) (n2:isName x.2.1=true) (b:pre.any (zE x)=false):Jc pre (x::t)=Jc (pre++[x]) t:=by
 rw[Jc,if_neg (by rw[n1,n2];decide),if_neg (by rw[b];decide)]
def JB (s:ByteArray):Bool:=eqS s ByteArray.empty
def zi (x:NT):Bool:=(JB x.1||isName x.1)&&(if x.2.2=true then JB x.2.1 else isName x.2.1)
def zZ (l:NL):Int:=if 8<l.length then 4 else if l.all zi=true then 0 else 3
def JL (t z:NT):Bool:=(JB z.1||eqS z.1 t.1)&&(z.2.2||eqS z.2.1 t.2.1)
def jcv (l:NL) (t:NT):Bool:=l.any (JL t)
def zI (l:NL):NL→Option NT
 | []=>none
 | t::r=>if (t.2.2&&!jcv l t)=true then some t else zI l r
theorem Jv {s:ByteArray}:JB s=(s.toList==([]:List UInt8)):=by
 unfold JB eqS;rw[show ByteArray.empty.toList=([]:List UInt8) from by rw[Lib.toList_data];rfl]
theorem XP (v:Value) (w:World):Calls Tryz.prog 111 #[v,.int .i64 0] w fun e w'=>e=.returned v∧w=w':=by
 go_enter Tryz.func111,Tryz.ntmps111;go_wp2;go_ret;exact⟨rfl,rfl⟩
theorem Xw (v:Value) (x:Int) (w:World) (h:x≠0):Calls Tryz.prog 111 #[v,.int .i64 x] w fun e w'=>e=.panicked [zb x]∧w=w':=by
 have h3:(x != 0)=true:=by simpa using h
 clear h;go_enter Tryz.func111,Tryz.ntmps111;go_wp2;exact⟨rfl,rfl,rfl⟩
open Go.RowKit Go.Shelf
attribute [local go_sem] Oper.semAt_some
end Go.Proofs.YtgfoenfaohhjcabGreat
namespace Go.Proofs.YtgfoenfaohhjcabGreat
open Go.RowKit Go.Shelf
attribute [local go_sem] Oper.semAt_some
end Go.Proofs.YtgfoenfaohhjcabGreat
namespace Go.Proofs.YtgfoenfaohhjcabGreat
open Go.RowKit
theorem XL {v:Value} {l:PL} {c:Int} {w:World} (h:Reads jD w v l) (hc:Jl l=c) :
 Calls Tryz.prog 138 #[v] w (Say (.int .i64 c) w):=by
 obtain⟨a,cap,rfl,_,_,hr⟩:=h;exact(XW a _ cap l w hr).mono fun e w' ⟨he,k⟩=>⟨by rw[he,hc],k⟩
theorem ja2 {v:Value} {l:TL} {c:Int} {w:World} (h:Reads jL w v l) (hc:JF l=c) :
 Calls Tryz.prog 142 #[v] w (Say (.int .i64 c) w):=by
 obtain⟨a,cap,rfl,_,_,hr⟩:=h;exact(jcH a _ cap l w hr).mono fun e w' ⟨he,k⟩=>⟨by rw[he,hc],k⟩
theorem jgU {v:Value} {l:PL} {n x:ByteArray} {b:Bool} {w:World} (h:Reads jD w v l) (hx:YH l n=x) (hb:ZM l n=b) :
 Calls Tryz.prog 184 #[v,.string n] w (Say (.tuple #[.string x,.bool b]) w):=by
 obtain⟨a,cap,rfl,_,_,hr⟩:=h;exact(Yx a _ cap l n w hr).mono fun e w' ⟨he,k⟩=>⟨by rw[he,hx,hb],k⟩
theorem jhD {v v':Value} {l:TL} {s:PL} {b:Bool} {w:World} (h:Reads jL w v l) (h':Reads jD w v' s) (hb:J5 l s=b) :
 Calls Tryz.prog 155 #[v,v'] w (Say (.bool b) w):=by
 obtain⟨a,cap,rfl,_,_,hr⟩:=h;obtain⟨a',cap',rfl,_,_,hr'⟩:=h';exact(jfT a a' _ cap _ cap' l s w hr hr').mono fun e w' ⟨he,k⟩=>⟨by rw[he,hb],k⟩
def Z5 (x:ByteArray×ByteArray):Bool:=decide (x.1.size≤50)&&decide (x.2.size≤50)
def Z4 (x:Int×ByteArray×ByteArray):Bool:=decide (x.2.1.size≤50)&&decide (x.2.2.size≤50)
def ZI (l:PL):Bool:=decide (l.length≤20)&&l.all Z5
def ZK (l:TL):Bool:=decide (l.length≤20)&&l.all Z4
theorem jaP (a:Option Addr) (len cap:Nat) (l:PL) (w:World) (hr:jj jD w a len l) :
 Calls Tryz.prog 26 #[.slice a len cap] w fun e w'=>e=.returned (.bool (ZI l))∧w=w':=by
 have hl:=hr.1;have hm:=hr.2.1;unfold maxLen at hm;by_cases h20:len≤20
 · have HV:=lH (show ZI l=l.all Z5 by unfold ZI;rw[decide_eq_true (by omega)];rfl);rcases hr.form with h0 | ⟨b,off,rfl⟩
   · subst h0;have HE:=lH (show ZI l=true by rw[HV.out,List.eq_nil_of_length_eq_zero hl];rfl);clear hr hl;go_enter Tryz.func26,Tryz.ntmps26;go_wp2;refine wp_loop_rounds 1 ?_;rw[rounds_succ];go_wp2;go_ret;exact⟨je HE.out.symm,rfl⟩
   · have HR:=lH hr;have HL:=lH hl;clear hr hl;go_enter Tryz.func26,Tryz.ntmps26;go_wp2;go_loop [3] (fun i=>∃k:Nat,k≤len∧i=.int .i64 k∧(l.drop k).all Z5=l.all Z5) (fun i=>len-(intOf i).toNat)
     case atStart=>exact⟨0,Nat.zero_le _,rfl,rfl⟩
     case round =>
      obtain⟨k,hk,rfl,hrest⟩:=hrel;by_cases hlt:k<len
      · obtain⟨x,y,hx,hd,hb,hz,hz2,c1,c2⟩:=HR.out.pair hlt;have HT:=lH (hrest.symm.trans ((congrArg (fun z=>z.all Z5) hd).trans (all_cons _ _ _)));clear hrest hx hd;unfold maxLen at hz hz2;by_cases e:x.size≤50
        · by_cases e2:y.size≤50
          · have E:=lH (show Z5 (x,y)=true by unfold Z5;rw[decide_eq_true e,decide_eq_true e2];rfl);go_wp2;go_round
            case rel=>exact⟨k+1,by omega,by go_num,(HT.out.trans (by rw[E.out];exact Bool.true_and _)).symm⟩
            case measure=>simp[intOf];omega
          · have E:=lH (show Z5 (x,y)=false by unfold Z5;rw[decide_eq_false e2];exact Bool.and_false _);have e2':50<y.size:=by omega
            clear e2;go_wp2;go_ret;exact⟨je (HV.out.trans (HT.out.trans (by rw[E.out];exact Bool.false_and _))).symm,rfl⟩
        · have E:=lH (show Z5 (x,y)=false by unfold Z5;rw[decide_eq_false e];exact Bool.false_and _);have e':50<x.size:=by omega
          clear e;go_wp2;go_ret;exact⟨je (HV.out.trans (HT.out.trans (by rw[E.out];exact Bool.false_and _))).symm,rfl⟩
      · have HS:=lH ((HV.out.trans hrest.symm).trans (congrArg (fun z=>z.all Z5) (zp (by rw[HL.out];exact hlt))));clear hrest;go_wp2;go_ret;exact⟨je (HS.out.trans rfl).symm,rfl⟩
 · have HV:=lH (show ZI l=false by unfold ZI;rw[decide_eq_false (by omega)];rfl);have h9:20<len:=by omega
   clear h20 hr hl;go_enter Tryz.func26,Tryz.ntmps26;go_wp2;go_ret;exact⟨je HV.out.symm,rfl⟩
theorem jd3 (a:Option Addr) (len cap:Nat) (l:TL) (w:World) (hr:jj jL w a len l) :
 Calls Tryz.prog 27 #[.slice a len cap] w fun e w'=>e=.returned (.bool (ZK l))∧w=w':=by
 have hl:=hr.1;have hm:=hr.2.1;unfold maxLen at hm;by_cases h20:len≤20
 · have HV:=lH (show ZK l=l.all Z4 by unfold ZK;rw[decide_eq_true (by omega)];rfl);rcases hr.form with h0 | ⟨b,off,rfl⟩
   · subst h0;have HE:=lH (show ZK l=true by rw[HV.out,List.eq_nil_of_length_eq_zero hl];rfl);clear hr hl;go_enter Tryz.func27,Tryz.ntmps27;go_wp2;refine wp_loop_rounds 1 ?_;rw[rounds_succ];go_wp2;go_ret;exact⟨je HE.out.symm,rfl⟩
   · have HR:=lH hr;have HL:=lH hl;clear hr hl;go_enter Tryz.func27,Tryz.ntmps27;go_wp2;go_loop [3] (fun i=>∃k:Nat,k≤len∧i=.int .i64 k∧(l.drop k).all Z4=l.all Z4) (fun i=>len-(intOf i).toNat)
     case atStart=>exact⟨0,Nat.zero_le _,rfl,rfl⟩
     case round =>
      obtain⟨k,hk,rfl,hrest⟩:=hrel;by_cases hlt:k<len
      · obtain⟨o,x,y,hx,hd,hb,ho,hz,hz2,c0,c1,c2⟩:=HR.out.term hlt;have HT:=lH (hrest.symm.trans ((congrArg (fun z=>z.all Z4) hd).trans (all_cons _ _ _)));clear hrest hx hd;unfold maxLen at hz hz2;by_cases e:x.size≤50
        · by_cases e2:y.size≤50
          · have E:=lH (show Z4 (o,x,y)=true by unfold Z4;rw[decide_eq_true e,decide_eq_true e2];rfl);go_wp2;go_round
            case rel=>exact⟨k+1,by omega,by go_num,(HT.out.trans (by rw[E.out];exact Bool.true_and _)).symm⟩
            case measure=>simp[intOf];omega
          · have E:=lH (show Z4 (o,x,y)=false by unfold Z4;rw[decide_eq_false e2];exact Bool.and_false _);have e2':50<y.size:=by omega
            clear e2;go_wp2;go_ret;exact⟨je (HV.out.trans (HT.out.trans (by rw[E.out];exact Bool.false_and _))).symm,rfl⟩
        · have E:=lH (show Z4 (o,x,y)=false by unfold Z4;rw[decide_eq_false e];exact Bool.false_and _);have e':50<x.size:=by omega
          clear e;go_wp2;go_ret;exact⟨je (HV.out.trans (HT.out.trans (by rw[E.out];exact Bool.false_and _))).symm,rfl⟩
      · have HS:=lH ((HV.out.trans hrest.symm).trans (congrArg (fun z=>z.all Z4) (zp (by rw[HL.out];exact hlt))));clear hrest;go_wp2;go_ret;exact⟨je (HS.out.trans rfl).symm,rfl⟩
 · have HV:=lH (show ZK l=false by unfold ZK;rw[decide_eq_false (by omega)];rfl);have h9:20<len:=by omega
   clear h20 hr hl;go_enter Tryz.func27,Tryz.ntmps27;go_wp2;go_ret;exact⟨je HV.out.symm,rfl⟩
theorem qR (a:Option Addr) (len cap:Nat) (l:PL) (w:World) (hr:jj jD w a len l) :
 Calls Tryz.prog 31 #[.slice a len cap] w fun e w'=>e=.returned (.int .i64 (Jl l))∧Kept w w':=by
 have hl:=hr.1;have hm:=hr.2.1;unfold maxLen at hm;by_cases h8:len≤8
 · have HV:=lH (show Jl l=zu none l by unfold Jl;rw[if_neg (by omega)]);rcases hr.form with h0 | ⟨b,off,rfl⟩
   · subst h0;have HE:=lH (show Jl l=0 by rw[HV.out];rw[List.eq_nil_of_length_eq_zero hl];rfl);clear hr hl;go_enter Tryz.func31,Tryz.ntmps31;go_wp2;refine wp_loop_rounds 1 ?_;rw[rounds_succ];go_wp2;go_ret;exact⟨jb HE.out.symm,Kept.refl _⟩
   · have HR:=lH hr;have HL:=lH hl;clear hr hl;go_enter Tryz.func31,Tryz.ntmps31;go_wp2;go_loopw [3] (fun i wr=>∃k:Nat,k≤len∧i=.int .i64 k∧zu (ZG l k) (l.drop k)=zu none l∧Kept w wr) (fun i _=>len-(intOf i).toNat)
     case atStart=>exact⟨0,Nat.zero_le _,rfl,rfl,Kept.refl _⟩
     case round =>
      obtain⟨k,hk,rfl,hrest,hK⟩:=hrel;by_cases hlt:k<len
      · obtain⟨x,y,hx,hd,hb,hz,hz2,c1,c2⟩:=(HR.out.kept hK).pair hlt;have HX:=lH hx;have HK:=lH hK;have HT:=lH (hrest.symm.trans (congrArg (zu (ZG l k)) hd));have HS:=lH (HV.out.trans HT.out);clear hK hrest hx hd;by_cases n1:isName x=true
        · by_cases n2:isName y=true
          · have N1:=lH n1;have N2:=lH n2;by_cases h0:k=0
            · have hd:decide (0<k)=false:=by subst h0;decide
              have HP:=lH (Zz (l:=l) h0 x);clear h0;go_wp2_with (go_at_call 29;refine(jm _ _ (by assumption)).mono ?_;rintro e w' ⟨rfl,rfl⟩)
              go_quiet (fail)
              go_wp2;go_roundw
              case rel=>exact⟨k+1,by omega,by go_num,by rw[ZP HX.out];exact(JN N1.out N2.out HP.out).symm.trans HT.out.symm,HK.out.trans (Kept.drewN _ _)⟩
              case measure=>simp[intOf];omega
            · have hd:decide (0<k)=true:=by simp;omega
              have g1:0≤(k:Int)-1:=by omega
              have g2:(k:Int)-1<(len:Int):=by omega
              have g3:((k:Int)-1).toNat=k-1:=by omega
              obtain⟨px,py,hpx,_,_,_,_,d1,d2⟩:=(HR.out.kept HK.out).pair (show k-1<len by omega);have HP:=lH (Zx (l:=l) h0 hpx x);clear hpx;by_cases n3:leS x px=true
              · have n3':(Op.bytesLess x.toList px.toList||x.toList==px.toList)=true:=n3;have N3:=lH n3;clear n3;go_wp2_with (go_at_call 29;refine(jm _ _ (by assumption)).mono ?_;rintro e w' ⟨rfl,rfl⟩)
                go_quiet (fail)
                go_wp2;go_ret;exact⟨jb (HS.out.trans (Yl N1.out N2.out (HP.out.trans N3.out))).symm,HK.out.trans (Kept.drewN _ _)⟩
              · have n3:leS x px=false:=by simpa using n3
                have n3':(Op.bytesLess x.toList px.toList||x.toList==px.toList)=false:=n3;have N3:=lH n3;clear n3;go_wp2_with (go_at_call 29;refine(jm _ _ (by assumption)).mono ?_;rintro e w' ⟨rfl,rfl⟩)
                go_quiet (fail)
                go_wp2;go_roundw
                case rel=>exact⟨k+1,by omega,by go_num,by rw[ZP HX.out];exact(JN N1.out N2.out (HP.out.trans N3.out)).symm.trans HT.out.symm,HK.out.trans (Kept.drewN _ _)⟩
                case measure=>simp[intOf];omega
          · have n2:isName y=false:=by simpa using n2
            have N:=lH (show (isName x&&isName y)=false by rw[n2,Bool.and_false]);go_wp2_with (go_at_call 29;refine(jm _ _ (by assumption)).mono ?_;rintro e w' ⟨rfl,rfl⟩)
            go_ret;exact⟨jb (HS.out.trans (ZJ N.out)).symm,HK.out⟩
        · have n1:isName x=false:=by simpa using n1
          have N:=lH (show (isName x&&isName y)=false by rw[n1,Bool.false_and]);go_wp2_with (go_at_call 29;refine(jm x _ hz).mono ?_;rintro e w' ⟨rfl,rfl⟩)
          go_ret;exact⟨jb (HS.out.trans (ZJ N.out)).symm,HK.out⟩
      · have HK:=lH hK;have HS:=lH ((HV.out.trans hrest.symm).trans (congrArg (zu (ZG l k)) (zp (by rw[HL.out];exact hlt))));clear hK hrest;go_wp2;go_ret;exact⟨jb (HS.out.trans rfl).symm,HK.out⟩
 · have HV:=lH (show Jl l=4 by unfold Jl;rw[if_pos (by omega)]);have h9:8<len:=by omega
   clear h8 hr hl;go_enter Tryz.func31,Tryz.ntmps31;go_wp2;go_ret;exact⟨jb HV.out.symm,Kept.refl _⟩
theorem jah (a:Option Addr) (len cap:Nat) (l:TL) (w:World) (hr:jj jL w a len l) :
 Calls Tryz.prog 32 #[.slice a len cap] w fun e w'=>e=.returned (.int .i64 (JF l))∧Kept w w':=by
 have hl:=hr.1;have hm:=hr.2.1;unfold maxLen at hm;by_cases h8:len≤8
 · have HV:=lH (show JF l=JY l by unfold JF;rw[if_neg (by omega)]);rcases hr.form with h0 | ⟨b,off,rfl⟩
   · subst h0;have HE:=lH (show JF l=0 by rw[HV.out];rw[List.eq_nil_of_length_eq_zero hl];rfl);clear hr hl;go_enter Tryz.func32,Tryz.ntmps32;go_wp2;refine wp_loop_rounds 1 ?_;rw[rounds_succ];go_wp2;go_ret;exact⟨jb HE.out.symm,Kept.refl _⟩
   · have HR:=lH hr;have HL:=lH hl;clear hr hl;go_enter Tryz.func32,Tryz.ntmps32;go_wp2;go_loopw [3] (fun i wr=>∃k:Nat,k≤len∧i=.int .i64 k∧JY (l.drop k)=JY l∧Kept w wr) (fun i _=>len-(intOf i).toNat)
     case atStart=>exact⟨0,Nat.zero_le _,rfl,rfl,Kept.refl _⟩
     case round =>
      obtain⟨k,hk,rfl,hrest,hK⟩:=hrel;by_cases hlt:k<len
      · obtain⟨o,x,y,hx,hd,hb,ho,hz,hz2,c1,c2,c3⟩:=(HR.out.kept hK).term hlt;have HK:=lH hK;have HT:=lH (hrest.symm.trans ((congrArg JY hd).trans (qX _ _)));have HS:=lH (HV.out.trans HT.out);clear hK hrest hx hd;by_cases g1:o<1
        · have N:=lH (show Ja (o,x,y)=1 by rw[Ji,if_neg (by omega),if_neg (by omega)]);go_wp2_with (go_at_call 29;refine(jm _ _ (by assumption)).mono ?_;rintro e w' ⟨rfl,rfl⟩)
          go_ret;exact⟨jb (HS.out.trans ((if_pos (by rw[N.out];decide)).trans N.out)).symm,HK.out.trans (ja _ _)⟩
        · by_cases g4:4<o
          · have g1':¬o<1:=g1;have N:=lH (show Ja (o,x,y)=1 by rw[Ji,if_neg (by omega),if_neg (by omega)]);go_wp2_with (go_at_call 29;refine(jm _ _ (by assumption)).mono ?_;rintro e w' ⟨rfl,rfl⟩)
            go_ret;exact⟨jb (HS.out.trans ((if_pos (by rw[N.out];decide)).trans N.out)).symm,HK.out.trans (ja _ _)⟩
          · have hcase:(o=1∨o=2)∨(o=3∨o=4):=by omega
            clear g1 g4;rcases hcase with hcase | hcase
            · have hc:=hcase;by_cases n1:isName x=true
              · by_cases n2:isName y=true
                · have NN:=lH (show Ja (o,x,y)=0 by rw[Ji,if_pos hc,if_pos (by rw[n1,n2];rfl)]);clear hc;rcases hcase with rfl | rfl
                  · have N:=lH (NN.out);go_wp2_with (go_at_call 29;refine(jm _ _ (by assumption)).mono ?_;rintro e w' ⟨rfl,rfl⟩)
                    go_roundw
                    case rel=>exact⟨k+1,by omega,by go_num,(HT.out.trans (if_neg (by rw[N.out];decide))).symm,HK.out.trans (ja _ _)⟩
                    case measure=>simp[intOf];omega
                  · have N:=lH (NN.out);go_wp2_with (go_at_call 29;refine(jm _ _ (by assumption)).mono ?_;rintro e w' ⟨rfl,rfl⟩)
                    go_roundw
                    case rel=>exact⟨k+1,by omega,by go_num,(HT.out.trans (if_neg (by rw[N.out];decide))).symm,HK.out.trans (ja _ _)⟩
                    case measure=>simp[intOf];omega
                · have n2:isName y=false:=by simpa using n2
                  have NN:=lH (show Ja (o,x,y)=3 by rw[Ji,if_pos hc,if_neg (by rw[n2,Bool.and_false];decide)]);clear hc;rcases hcase with rfl | rfl
                  · have N:=lH (NN.out);go_wp2_with (go_at_call 29;refine(jm _ _ (by assumption)).mono ?_;rintro e w' ⟨rfl,rfl⟩)
                    go_ret;exact⟨jb (HS.out.trans ((if_pos (by rw[N.out];decide)).trans N.out)).symm,HK.out.trans (ja _ _)⟩
                  · have N:=lH (NN.out);go_wp2_with (go_at_call 29;refine(jm _ _ (by assumption)).mono ?_;rintro e w' ⟨rfl,rfl⟩)
                    go_ret;exact⟨jb (HS.out.trans ((if_pos (by rw[N.out];decide)).trans N.out)).symm,HK.out.trans (ja _ _)⟩
              · have n1:isName x=false:=by simpa using n1
                have NN:=lH (show Ja (o,x,y)=3 by rw[Ji,if_pos hc,if_neg (by rw[n1,Bool.false_and];decide)]);clear hc;rcases hcase with rfl | rfl
                · have N:=lH (NN.out);go_wp2_with (go_at_call 29;refine(jm _ _ (by assumption)).mono ?_;rintro e w' ⟨rfl,rfl⟩)
                  go_ret;exact⟨jb (HS.out.trans ((if_pos (by rw[N.out];decide)).trans N.out)).symm,HK.out.trans (ja _ _)⟩
                · have N:=lH (NN.out);go_wp2_with (go_at_call 29;refine(jm _ _ (by assumption)).mono ?_;rintro e w' ⟨rfl,rfl⟩)
                  go_ret;exact⟨jb (HS.out.trans ((if_pos (by rw[N.out];decide)).trans N.out)).symm,HK.out.trans (ja _ _)⟩
            · have hc:=hcase;have hn:¬(o=1∨o=2):=by omega
              by_cases n1:isName x=true
              · by_cases n2:eqS y ByteArray.empty=true
                · have NN:=lH (show Ja (o,x,y)=0 by rw[Ji,if_neg hn,if_pos hc,if_pos (by rw[n1,n2];rfl)]);have n2':(y.toList==([]:List UInt8))=true:=by unfold eqS at n2;simpa using n2
                  clear hc hn n2;rcases hcase with rfl | rfl
                  · have N:=lH (NN.out);go_wp2_with (go_at_call 29;refine(jm _ _ (by assumption)).mono ?_;rintro e w' ⟨rfl,rfl⟩)
                    go_roundw
                    case rel=>exact⟨k+1,by omega,by go_num,(HT.out.trans (if_neg (by rw[N.out];decide))).symm,HK.out.trans (ja _ _)⟩
                    case measure=>simp[intOf];omega
                  · have N:=lH (NN.out);go_wp2_with (go_at_call 29;refine(jm _ _ (by assumption)).mono ?_;rintro e w' ⟨rfl,rfl⟩)
                    go_roundw
                    case rel=>exact⟨k+1,by omega,by go_num,(HT.out.trans (if_neg (by rw[N.out];decide))).symm,HK.out.trans (ja _ _)⟩
                    case measure=>simp[intOf];omega
                · have n2:eqS y ByteArray.empty=false:=by simpa using n2
                  have NN:=lH (show Ja (o,x,y)=3 by rw[Ji,if_neg hn,if_pos hc,if_neg (by rw[n2,Bool.and_false];decide)]);have n2':(y.toList==([]:List UInt8))=false:=by unfold eqS at n2;simpa using n2
                  clear hc hn n2;rcases hcase with rfl | rfl
                  · have N:=lH (NN.out);go_wp2_with (go_at_call 29;refine(jm _ _ (by assumption)).mono ?_;rintro e w' ⟨rfl,rfl⟩)
                    go_ret;exact⟨jb (HS.out.trans ((if_pos (by rw[N.out];decide)).trans N.out)).symm,HK.out.trans (ja _ _)⟩
                  · have N:=lH (NN.out);go_wp2_with (go_at_call 29;refine(jm _ _ (by assumption)).mono ?_;rintro e w' ⟨rfl,rfl⟩)
                    go_ret;exact⟨jb (HS.out.trans ((if_pos (by rw[N.out];decide)).trans N.out)).symm,HK.out.trans (ja _ _)⟩
              · have n1:isName x=false:=by simpa using n1
                have NN:=lH (show Ja (o,x,y)=3 by rw[Ji,if_neg hn,if_pos hc,if_neg (by rw[n1,Bool.false_and];decide)]);clear hc hn;rcases hcase with rfl | rfl
                · have N:=lH (NN.out);go_wp2_with (go_at_call 29;refine(jm _ _ (by assumption)).mono ?_;rintro e w' ⟨rfl,rfl⟩)
                  go_ret;exact⟨jb (HS.out.trans ((if_pos (by rw[N.out];decide)).trans N.out)).symm,HK.out.trans (ja _ _)⟩
                · have N:=lH (NN.out);go_wp2_with (go_at_call 29;refine(jm _ _ (by assumption)).mono ?_;rintro e w' ⟨rfl,rfl⟩)
                  go_ret;exact⟨jb (HS.out.trans ((if_pos (by rw[N.out];decide)).trans N.out)).symm,HK.out.trans (ja _ _)⟩
      · have HK:=lH hK;have HS:=lH ((HV.out.trans hrest.symm).trans (congrArg JY (zp (by rw[HL.out];exact hlt))));clear hK hrest;go_wp2;go_ret;exact⟨jb (HS.out.trans rfl).symm,HK.out⟩
 · have HV:=lH (show JF l=4 by unfold JF;rw[if_pos (by omega)]);have h9:8<len:=by omega
   clear h8 hr hl;go_enter Tryz.func32,Tryz.ntmps32;go_wp2;go_ret;exact⟨jb HV.out.symm,Kept.refl _⟩
theorem jgu:(Tryz.prog.info? 125).map (fun i=>(i.zero,i.size,i.bytes))=some (some (.agg #[.string ByteArray.empty,.string ByteArray.empty]),2,32):=by kernel_rfl
theorem jce (a:Option Addr) (len cap:Nat) (l:PL) (w:World) (hr:jj jD w a len l) (hlen:len≤1000000) :
 Calls Tryz.prog 35 #[.slice a len cap] w (fun e w'=>∃x,e=.returned x∧Own jD 125 w' w.heap.size x l∧Kept w w'):=by
 have hl:=hr.1;obtain⟨i0,hi,hz0,hz1,hz2'⟩:=info_parts jgu;rcases hr.form with h0 | ⟨b,off,rfl⟩
 · subst h0;have hl0:l=[]:=List.eq_nil_of_length_eq_zero hl;subst hl0;clear hr hl hi hz0 hz1 hz2';go_enter Tryz.func35,Tryz.ntmps35;go_wp2;refine wp_loop_rounds 1 ?_;rw[rounds_succ];go_wp2;go_ret;exact⟨_,rfl,Own.nil _ _ _,Kept.refl _⟩
 · have HR:=lH hr;have HL:=lH hl;clear hr hl;go_enter Tryz.func35,Tryz.ntmps35;go_wp2;go_loopw [3,4] (fun v i wr=>∃k:Nat,k≤len∧i=.int .i64 k∧Own jD 125 wr w.heap.size v (l.take k)∧Below w.heap.size w wr) (fun _ i _=>len-(intOf i).toNat)
   case atStart=>exact⟨0,Nat.zero_le _,rfl,Own.nil _ _ _,Below.refl _ _⟩
   case round =>
    obtain⟨k,hk,rfl,ho,hB⟩:=hrel;have HO:=lH ho;have HB:=lH hB;have HT:=lH (show (l.take k).length=k by rw[List.length_take,HL.out];omega);have HOWN:=lH (show wr.ownsRow w.heap.size 125 2 u3 k (jf jD (l.take k)) by have:=HO.out.1;rw[HT.out] at this;exact this);by_cases hlt:k<len
    · obtain⟨x,y,hx,hd,hb,hz,hz2,c1,c2⟩:=(HR.out.kept hB).pair hlt;have HX:=lH hx;have hbw:b<w.heap.size:=by obtain⟨z,_,_,h,_⟩:=HR.out.cells hlt;exact h
      have hbase:w.heap.size≤wr.heap.size:=hB.size;have HNE:=lH (show u3.ownBlock≠some b by
       intro e;have:=(HOWN.out.lt b e).1;omega)
      have HBASE:=lH (show w.heap.size≤(wr.alloc (.cells #[.string x,.string y] 125)).drew.heap.size by simp;omega);have HBD:=lH (show Below w.heap.size w ((wr.alloc (.cells #[.string x,.string y] 125)).drew) from HB.out.trans (Below.mono ((ja wr _).trans (Kept.drewN _ 1)) hbase));have hk1:(k:Int)<(len:Int):=by omega
      have HFK:=lH (show jD.fine (x,y) from⟨hz,hz2⟩);clear ho hB hx hd hz hz2;go_wp2_with fail
      go_region_held3 (fun W=>W.cell? ⟨b,off+k*2,none⟩=some (.string x)∧W.cell? ⟨b,off+k*2+1,none⟩=some (.string y))
       (first
         | go_keep
         | (go_split_ands
            refine⟨?_,?_⟩
            · (refine(hgrow.cell_far ⟨b,off+k*2,none⟩ (by simp;omega) (Ne.symm HNE.out)).trans ?_;assumption)
            · (refine(hgrow.cell_far ⟨b,off+k*2+1,none⟩ (by simp;omega) (Ne.symm HNE.out)).trans ?_;assumption)))
       ((refine step_append_lies _ (by rfl) _ _ _ (by rfl) w.heap.size 125 i0 _ 2 32 Tryz.underlying41 hi hz0 hz1 hz2' rfl (by decide) u3 k (jf jD (l.take k)) (by rfl) ((HOWN.out.alloc _).drew)
          ⟨wr.heap.size,0,none⟩ 1 1 [.string x,.string y] (by rfl) (by rfl) (World.news_of_block (cs:=#[.string x,.string y]) (t:=125) (fr:=(0,0)) (heap_alloc_new wr _)) (jfm x y)
          (by decide) (by unfold maxLen;omega) (by omega) (by simp;omega) (wr.heap.size+1) (by simp) ?_;intro gg cap1 w1 hown1 hgrow hat hlt1))
      all_goals
       go_wp2;go_roundw
       case rel=>exact⟨k+1,by omega,by go_num,by rw[zy HX.out];exact Own.snoc hown1 (by rw[HT.out]) HO.out.2 HFK.out,HBD.out.grown hgrow HBASE.out (fun j hj=>(HOWN.out.lt j hj).1)⟩
       case measure=>simp[intOf];omega
    · have HK:=lH (show l.take k=l by rw[List.take_of_length_le (by rw[HL.out];omega)]);clear ho hB;go_wp2;go_ret;exact⟨_,rfl,by have h:=HO.out;rw[HK.out] at h;exact h,HB.out⟩
theorem jgv:(Tryz.prog.info? 126).map (fun i=>(i.zero,i.size,i.bytes))=some (some (.agg #[.int .i64 0,.string ByteArray.empty,.string ByteArray.empty]),3,40):=by kernel_rfl
theorem jfY (a:Option Addr) (len cap:Nat) (l:TL) (w:World) (hr:jj jL w a len l) (hlen:len≤1000000) :
 Calls Tryz.prog 36 #[.slice a len cap] w (fun e w'=>∃x,e=.returned x∧Own jL 126 w' w.heap.size x l∧Kept w w'):=by
 have hl:=hr.1;obtain⟨i0,hi,hz0,hz1,hz2'⟩:=info_parts jgv;rcases hr.form with h0 | ⟨b,off,rfl⟩
 · subst h0;have hl0:l=[]:=List.eq_nil_of_length_eq_zero hl;subst hl0;clear hr hl hi hz0 hz1 hz2';go_enter Tryz.func36,Tryz.ntmps36;go_wp2;refine wp_loop_rounds 1 ?_;rw[rounds_succ];go_wp2;go_ret;exact⟨_,rfl,Own.nil _ _ _,Kept.refl _⟩
 · have HR:=lH hr;have HL:=lH hl;clear hr hl;go_enter Tryz.func36,Tryz.ntmps36;go_wp2;go_loopw [3,4] (fun v i wr=>∃k:Nat,k≤len∧i=.int .i64 k∧Own jL 126 wr w.heap.size v (l.take k)∧Below w.heap.size w wr) (fun _ i _=>len-(intOf i).toNat)
   case atStart=>exact⟨0,Nat.zero_le _,rfl,Own.nil _ _ _,Below.refl _ _⟩
   case round =>
    obtain⟨k,hk,rfl,ho,hB⟩:=hrel;have HO:=lH ho;have HB:=lH hB;have HT:=lH (show (l.take k).length=k by rw[List.length_take,HL.out];omega);have HOWN:=lH (show wr.ownsRow w.heap.size 126 3 u3 k (jf jL (l.take k)) by have:=HO.out.1;rw[HT.out] at this;exact this);by_cases hlt:k<len
    · obtain⟨o,x,y,hx,hd,hb,ho9,hz,hz2,c0,c1,c2⟩:=(HR.out.kept hB).term hlt;have HX:=lH hx;have hbw:b<w.heap.size:=by obtain⟨z,_,_,h,_⟩:=HR.out.cells hlt;exact h
      have hbase:w.heap.size≤wr.heap.size:=hB.size;have HNE:=lH (show u3.ownBlock≠some b by
       intro e;have:=(HOWN.out.lt b e).1;omega)
      have HBASE:=lH (show w.heap.size≤(wr.alloc (.cells #[.int .i64 o,.string x,.string y] 126)).drew.heap.size by simp;omega);have HBD:=lH (show Below w.heap.size w ((wr.alloc (.cells #[.int .i64 o,.string x,.string y] 126)).drew) from HB.out.trans (Below.mono ((ja wr _).trans (Kept.drewN _ 1)) hbase));have hk1:(k:Int)<(len:Int):=by omega
      have HFK:=lH (show jL.fine (o,x,y) from⟨ho9,hz,hz2⟩);clear ho hB hx hd hz hz2;go_wp2_with fail
      go_region_held3 (fun W=>W.cell? ⟨b,off+k*3,none⟩=some (.int .i64 o)∧W.cell? ⟨b,off+k*3+1,none⟩=some (.string x)∧W.cell? ⟨b,off+k*3+2,none⟩=some (.string y))
       (first
         | go_keep
         | (go_split_ands
            refine⟨?_,?_,?_⟩
            · (refine(hgrow.cell_far ⟨b,off+k*3,none⟩ (by simp;omega) (Ne.symm HNE.out)).trans ?_;assumption)
            · (refine(hgrow.cell_far ⟨b,off+k*3+1,none⟩ (by simp;omega) (Ne.symm HNE.out)).trans ?_;assumption)
            · (refine(hgrow.cell_far ⟨b,off+k*3+2,none⟩ (by simp;omega) (Ne.symm HNE.out)).trans ?_;assumption)))
       ((refine step_append_lies _ (by rfl) _ _ _ (by rfl) w.heap.size 126 i0 _ 3 40 Tryz.underlying42 hi hz0 hz1 hz2' rfl (by decide) u3 k (jf jL (l.take k)) (by rfl) ((HOWN.out.alloc _).drew)
          ⟨wr.heap.size,0,none⟩ 1 1 [.int .i64 o,.string x,.string y] (by rfl) (by rfl) (World.news_of_block (cs:=#[.int .i64 o,.string x,.string y]) (t:=126) (fr:=(0,0)) (heap_alloc_new wr _)) (jdD o x y)
          (by decide) (by unfold maxLen;omega) (by omega) (by simp;omega) (wr.heap.size+1) (by simp) ?_;intro gg cap1 w1 hown1 hgrow hat hlt1))
      all_goals
       go_wp2;go_roundw
       case rel=>exact⟨k+1,by omega,by go_num,by rw[zy HX.out];exact Own.snoc hown1 (by rw[HT.out]) HO.out.2 HFK.out,HBD.out.grown hgrow HBASE.out (fun j hj=>(HOWN.out.lt j hj).1)⟩
       case measure=>simp[intOf];omega
    · have HK:=lH (show l.take k=l by rw[List.take_of_length_le (by rw[HL.out];omega)]);clear ho hB;go_wp2;go_ret;exact⟨_,rfl,by have h:=HO.out;rw[HK.out] at h;exact h,HB.out⟩
theorem jcf {v:Value} {l:PL} {w:World} (h:Reads jD w v l):Calls Tryz.prog 26 #[v] w fun e w'=>e=.returned (.bool (ZI l))∧w=w':=by
 obtain⟨a,cap,rfl,_,_,hr⟩:=h;exact jaP a _ cap l w hr
theorem jaQ {v:Value} {l:TL} {w:World} (h:Reads jL w v l):Calls Tryz.prog 27 #[v] w fun e w'=>e=.returned (.bool (ZK l))∧w=w':=by
 obtain⟨a,cap,rfl,_,_,hr⟩:=h;exact jd3 a _ cap l w hr
theorem JG {v:Value} {l:PL} {c:Int} {w:World} (h:Reads jD w v l) (hc:Jl l=c):Calls Tryz.prog 31 #[v] w (Say (.int .i64 c) w):=by
 obtain⟨a,cap,rfl,_,_,hr⟩:=h;exact(qR a _ cap l w hr).mono fun e w' ⟨he,k⟩=>⟨by rw[he,hc],k⟩
theorem XZ {v:Value} {l:TL} {c:Int} {w:World} (h:Reads jL w v l) (hc:JF l=c):Calls Tryz.prog 32 #[v] w (Say (.int .i64 c) w):=by
 obtain⟨a,cap,rfl,_,_,hr⟩:=h;exact(jah a _ cap l w hr).mono fun e w' ⟨he,k⟩=>⟨by rw[he,hc],k⟩
open Go.RowKit Go.Sort
def Grw (w w':World):Prop:=∃q os,w'=grow (w.drewN q) os
theorem Grw.refl (w:World):Grw w w:=⟨0,#[],by rw[grow_empty];rfl⟩
theorem Grw.grown {w W:World} (h:Grw w W) (n:Nat) (os:Array Obj):Grw w (grow (W.drewN n) os):=by
 obtain⟨q,os0,rfl⟩:=h;exact⟨q+n,os0++os,by show grow (grow ((w.drewN q).drewN n) os0) os=_;rw[grow_grow,World.drewN_drewN]⟩
theorem Grw.trans {a b c:World} (h:Grw a b) (k:Grw b c):Grw a c:=by
 obtain⟨q,os,rfl⟩:=k;exact h.grown q os
theorem Grw.alloc (w:World) (o:Obj):Grw w (w.alloc o):=⟨0,#[o],alloc_eq_grow _ _⟩
theorem Grw.drewN (w:World) (n:Nat):Grw w (w.drewN n):=⟨n,#[],by rw[grow_empty]⟩
theorem Zk (w:World) (n:Nat) (os:Array Obj):Kept w (grow (w.drewN n) os):=Go.Lib.below_grow w.heap.size w (Nat.le_refl _) n os
theorem Grw.kept {w w':World} (h:Grw w w'):Kept w w':=by
 obtain⟨q,os,rfl⟩:=h;exact Zk w q os
end Go.Proofs.YtgfoenfaohhjcabGreat
