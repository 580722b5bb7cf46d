/- C. -/
import Derived.Test.YtibepooajeakfaaGreatG0
import Derived.Lib.AtoiErrMem
import Derived.Shelf.Strings.BuilderX
import Derived.StillTailTactics
import Derived.Lib.ItoaLen
import Derived.Lib.AppendIntMem
import Derived.Lib.SmallJoins
import Derived.Test.YtibepooajeakfaaGreatRows
import Derived.Stop.LaidErr
import Derived.Stop.Joined
import Derived.MakeChecks
import Derived.Shelf.SlSortCmp.QuietGrown
set_option linter.unusedVariables false
set_option maxRecDepth 100000
set_option maxHeartbeats 25600000
namespace Go.Proofs.YtibepooajeakfaaGreat
open Go.RowKit Go.Shelf
attribute [local go_sem] Oper.semAt_some
structure St (b2 D:Nat) (W W':World):Prop where
 os:W'.os=W.os
 tape:W'.tape=W.tape
 output:W'.output=W.output
 size:W.heap.size≤W'.heap.size
 block:∀b,b≠b2→b≠D→b≠D+1→W'.heap[b]?=W.heap[b]?
theorem St.setCell {b2 D:Nat} (W:World) (v:Value):St b2 D W (W.setCell ⟨b2,0,none⟩ v) :=
 ⟨rfl,rfl,rfl,by show W.heap.size≤(W.heap.modify _ _).size;rw[Array.size_modify];exact Nat.le_refl _,fun b h _ _=>Below.heap_setCell W ⟨b2,0,none⟩ v b h⟩
theorem St.drewN {b2 D:Nat} (W:World) (n:Nat):St b2 D W (W.drewN n):=⟨rfl,rfl,rfl,Nat.le_refl _,fun _ _ _ _=>rfl⟩
theorem St.put {b2 D:Nat} (W:World) (o:Obj):St b2 D W (W.putObj (D+1) o):=⟨rfl,rfl,rfl,by simp,fun b _ _ h=>World.putObj_heap_other h⟩
def KeptAt (b1 b2 b3 D:Nat) (W W':World):Prop:=∀b,b=b1∨b=b2∨b=b3∨b=D∨b=D+1→W'.heap[b]?=W.heap[b]?
theorem KeptAt.trans {b1 b2 b3 D:Nat} {A B C:World} (h:KeptAt b1 b2 b3 D A B) (k:KeptAt b1 b2 b3 D B C):KeptAt b1 b2 b3 D A C:=fun b hb=>(k b hb).trans (h b hb)
theorem KeptAt.drewN {b1 b2 b3 D:Nat} (W:World) (n:Nat):KeptAt b1 b2 b3 D W (W.drewN n):=fun _ _=>rfl
end Go.Proofs.YtibepooajeakfaaGreat
namespace Go.Proofs.YtibepooajeakfaaGreat
open Go.RowKit Go.Shelf
attribute [local go_sem] Oper.semAt_some
theorem Own.row {α:Type} {L:Lay α} {e:TypeId} {w:World} {B n:Nat} {v:Value} {l:List α} (h:Own L e w B v l) (hn:l.length=n):w.ownsRow B e L.m v n (jd L l):=hn▸h.1
def jbC {α:Type} (L:Lay α) (e:TypeId) (r:Int×List α) (base:Nat) (w:World) (en:Ending) (w':World):Prop :=
 (r.1=0→∃v,en=.returned v∧Own L e w' base v r.2)∧(r.1≠0→en=.panicked [zo r.1])∧Below base w w'
theorem jbC.good {α:Type} {L:Lay α} {e:TypeId} {r:Int×List α} {base:Nat} {w w':World} {v:Value} (h:r.1=0) (ho:Own L e w' base v r.2) (hb:Below base w w'):jbC L e r base w (.returned v) w':=⟨fun _=>⟨v,rfl,ho⟩,fun g=>absurd h g,hb⟩
theorem jbC.bad {α:Type} {L:Lay α} {e:TypeId} {r:Int×List α} {base:Nat} {w w':World} {c:Int} (h:r.1=c) (hc:c≠0) (hb:Below base w w'):jbC L e r base w (.panicked [zo c]) w':=⟨fun g=>absurd (h.symm.trans g) hc,fun _=>by rw[h],hb⟩
end Go.Proofs.YtibepooajeakfaaGreat
namespace Go.Proofs.YtibepooajeakfaaGreat.Vec
open Go.RowKit
def nameOf (p:List UInt8):List UInt8:=(Lib.cut p [61]).1
def jh7 (p:List UInt8):List UInt8:=(Lib.cut p [61]).2.1
end Go.Proofs.YtibepooajeakfaaGreat.Vec
namespace Go.Proofs.YtibepooajeakfaaGreat.Vec
open Go.RowKit Go.Shelf
attribute [local go_sem] Oper.semAt_some
theorem jQ.put {e:TypeId} {w:World} {B D:Nat} {v:Value} {l:V} (h:jQ e w B v l) (hD:D<B) (o:Obj):jQ e (w.putObj D o) B v l:=by
 obtain⟨⟨h0,h1⟩,hf⟩:=h;refine⟨⟨h0,h1.imp id ?_⟩,hf⟩;rintro ⟨g,cap,cur,rfl,hbg,hg,rest⟩;exact⟨g,cap,cur,rfl,hbg,(World.putObj_heap_other (by omega)).trans hg,rest⟩
theorem jQ.row {e:TypeId} {w:World} {B n:Nat} {v:Value} {l:V} (h:jQ e w B v l) (hn:l.length=n):w.ownsRow B e 2 v n (cellsOf l):=hn▸h.1
end Go.Proofs.YtibepooajeakfaaGreat.Vec
namespace Go.Proofs.YtibepooajeakfaaGreat.Vec
open Go.RowKit Go.Shelf
def jbP (b:Nat) (w w':World):Prop:=∀g cs fr,g≠b→w.heap[g]?=some (.cells cs 114 fr)→w'.heap[g]?=w.heap[g]?
theorem jbP.trans {b:Nat} {x y z:World} (h:jbP b x y) (k:jbP b y z):jbP b x z:=fun g cs fr hg hc=>(k g cs fr hg ((h g cs fr hg hc).trans hc)).trans (h g cs fr hg hc)
open Go.RowKit
theorem Reads.nil (w:World):Reads w (.slice none 0 0) []:=⟨none,0,rfl,Nat.le_refl _,by decide,ju.nil w⟩
theorem JZ {v:Value} {l:V} {c:Int} {w:World} (h:Reads w v l) (e:jv l=c) :
 Calls Tryz.prog 159 #[v] w fun x w'=>x=.returned (.int .i64 c)∧Kept w w':=by
 subst e;obtain⟨a,cap,rfl,h1,h2,h3⟩:=h;exact Yi a _ cap l w h3
theorem jeD {v:Value} {l:V} {n:ByteArray} {c:Int} {w:World} (h:Reads w v l) (e:jh l n=c) :
 Calls Tryz.prog 147 #[v,.string n] w fun x w'=>x=.returned (.int .i64 c)∧Kept w w':=by
 subst e;obtain⟨a,cap,rfl,h1,h2,h3⟩:=h;exact Y9 a _ cap l n w h3
theorem jmH {v v':Value} {l l':V} {c:Bool} {w:World} (h:Reads w v l) (h':Reads w v' l') (e:jx l' l=c) :
 Calls Tryz.prog 95 #[v,v'] w fun x w'=>x=.returned (.bool c)∧Kept w w':=by
 subst e;obtain⟨a,cap,rfl,h1,h2,h3⟩:=h;obtain⟨a',cap',rfl,h1',h2',h3'⟩:=h';exact YA a a' _ cap _ cap' l l' w h3 h3'
theorem jeO {v:Value} {l:V} {c:Bool} {w:World} (h:Reads w v l) (e:Yc l=c) :
 Calls Tryz.prog 108 #[v] w fun x w'=>x=.returned (.bool c)∧w=w':=by
 subst e;obtain⟨a,cap,rfl,h1,h2,h3⟩:=h;exact jcu a _ cap l w h3
def cpu:ByteArray:=⟨#[99,112,117]⟩
def mem:ByteArray:=⟨#[109,101,109]⟩
def kA:V:=[(cpu,100),(mem,5)]
theorem jf9:(Tryz.prog.info? 138).map (fun i=>(i.zero,i.size,i.bytes))=some (some (.agg #[.string ByteArray.empty,.int .i64 0]),2,24):=by kernel_rfl
theorem jc8 {l:V} {k:Nat} (h:k<l.length):l.take (k+1)=l.take k++[(nm l k,qn l k)]:=by
 rw[List.take_add_one];congr 1;have:l.getD k (ByteArray.empty,0)=l[k]:=by simp[List.getD,h]
 have e:(nm l k,qn l k)=l[k]:=by simp only[nm,qn,this]
 rw[e];simp[h]
theorem jeV (a:Option Addr) (len cap:Nat) (l:V) (w:World) (hr:ju w a len l) (hlen:len≤1000000) :
 Calls Tryz.prog 35 #[.slice a len cap] w (fun e w'=>∃x,e=.returned x∧jQ 138 w' w.heap.size x l∧Kept w w'):=by
 have hl:=hr.1;obtain⟨i0,hi,hz0,hz1,hz2⟩:=info_parts jf9;rcases hr.form with h0 | ⟨b,off,rfl⟩
 · subst h0;have hl0:l=[]:=List.eq_nil_of_length_eq_zero hl;subst hl0;clear hr hl hi hz0 hz1 hz2;go_enter Tryz.func35,Tryz.ntmps35;go_wp2;refine wp_loop_rounds 1 ?_;rw[rounds_succ];go_wp2;go_ret;exact⟨_,rfl,jQ.nil _ _ _,Kept.refl _⟩
 · obtain⟨HR,HL,HF⟩:=lH3 hr hl hr.2.2.1;clear hr hl;go_enter Tryz.func35,Tryz.ntmps35;go_wp2;go_loopw [3,4] (fun v i wr=>∃k:Nat,k≤len∧i=.int .i64 k∧jQ 138 wr w.heap.size v (l.take k)∧Below w.heap.size w wr) (fun _ i _=>len-(intOf i).toNat)
   case atStart=>exact⟨0,Nat.zero_le _,rfl,jQ.nil _ _ _,Below.refl _ _⟩
   case round =>
    obtain⟨k,hk,rfl,ho,hB⟩:=hrel;obtain⟨HO,HB,HT⟩:=lH3 ho hB (show (l.take k).length=k by rw[List.length_take,HL.out];omega);have Vj:=lH (show wr.ownsRow w.heap.size 138 2 u3 k (cellsOf (l.take k)) by have:=HO.out.1;rw[HT.out] at this;exact this);by_cases hlt:k<len
    · obtain⟨hb,c1,c2⟩:=(HR.out.kept hB).cells hlt;have HI:=lH (show k<l.length by rw[HL.out];exact hlt);have hbw:b<w.heap.size:=(HR.out.cells hlt).1;have hbase:w.heap.size≤wr.heap.size:=hB.size;have VY:=lH (show u3.ownBlock≠some b by
       intro e;have:=(Vj.out.lt b e).1;omega)
      have VI:=lH (show w.heap.size≤(wr.alloc (.cells #[.string (nm l k),.int .i64 (qn l k)] 138)).drew.heap.size by simp;omega);have UB:=lH (show Below w.heap.size w ((wr.alloc (.cells #[.string (nm l k),.int .i64 (qn l k)] 138)).drew) from HB.out.trans (Below.mono ((ja wr _).trans (Kept.drewN _ 1)) hbase));have hk1:(k:Int)<(len:Int):=by omega
      have Ul:=lH (HF.out k HI.out);clear ho hB;go_wp2_with fail
      go_region_held3 (fun W=>W.cell? ⟨b,off+k*2,none⟩=some (.string (nm l k))∧W.cell? ⟨b,off+k*2+1,none⟩=some (.int .i64 (qn l k)))
       (first
         | go_keep
         | (go_split_ands
            refine⟨?_,?_⟩
            · (refine(hgrow.cell_far ⟨b,off+k*2,none⟩ (by simp;omega) (Ne.symm VY.out)).trans ?_;assumption)
            · (refine(hgrow.cell_far ⟨b,off+k*2+1,none⟩ (by simp;omega) (Ne.symm VY.out)).trans ?_;assumption)))
       ((refine step_append_lies _ (by rfl) _ _ _ (by rfl) w.heap.size 138 i0 _ 2 24 Tryz.underlying37 hi hz0 hz1 hz2 rfl (by decide) u3 k (cellsOf (l.take k)) (by rfl) ((Vj.out.alloc _).drew)
          ⟨wr.heap.size,0,none⟩ 1 1 [.string (nm l k),.int .i64 (qn l k)] (by rfl) (by rfl) (World.news_of_block (cs:=#[.string (nm l k),.int .i64 (qn l k)]) (t:=138) (fr:=(0,0)) (heap_alloc_new wr _)) (ZO [(nm l k,qn l k)])
          (by decide) (by unfold maxLen;omega) (by omega) (by simp;omega) (wr.heap.size+1) (by simp) ?_;intro gg cap1 w1 hown1 hgrow hat hlt1))
      all_goals
       go_wp2;go_roundw
       case rel=>exact⟨k+1,by omega,by go_num,⟨by rw[jc8 HI.out,ZG,List.length_append,HT.out];exact hown1,by rw[jc8 HI.out];exact HO.out.2.snoc Ul.out.1 Ul.out.2.1 Ul.out.2.2⟩,UB.out.grown hgrow VI.out (fun j hj=>(Vj.out.lt j hj).1)⟩
       case measure=>simp[intOf];omega
    · have HK:=lH (show l.take k=l by rw[List.take_of_length_le (by rw[HL.out];omega)]);clear ho hB;go_wp2;go_ret;exact⟨_,rfl,by have h:=HO.out;rw[HK.out] at h;exact h,HB.out⟩
theorem jaS:∀s:List UInt8,Op.bytesLess s s=false
 | []=>rfl
 | a::s=>by
  have:¬a<a:=UInt8.lt_irrefl a;simp[Op.bytesLess,jaS s,this]
theorem jcg:∀{a b c:List UInt8},Op.bytesLess a b=true→Op.bytesLess b c=true→Op.bytesLess a c=true
 | _,_,[],_,h=>by simp[Op.bytesLess] at h
 | [],_,_::_,_,_=>by simp[Op.bytesLess]
 | x::a,[],z::c,h,_=>by simp[Op.bytesLess] at h
 | x::a,y::b,z::c,h,g=>by
  simp only[Op.bytesLess,Bool.or_eq_true,Bool.and_eq_true,decide_eq_true_eq,beq_iff_eq] at h g ⊢;rcases h with h | ⟨rfl,h⟩
  · rcases g with g | ⟨rfl,g⟩
    · exact .inl (UInt8.lt_trans h g)
    · exact .inl h
  · rcases g with g | ⟨rfl,g⟩
    · exact .inl g
    · exact .inr ⟨rfl,jcg h g⟩
theorem jfi:∀{a b:List UInt8},Op.bytesLess a b=false→Op.bytesLess b a=false→a=b
 | [],[],_,_=>rfl
 | [],_::_,h,_=>by simp[Op.bytesLess] at h
 | _::_,[],_,h=>by simp[Op.bytesLess] at h
 | x::a,y::b,h,g=>by
  simp only[Op.bytesLess,Bool.or_eq_false_iff,decide_eq_false_iff_not,Bool.and_eq_false_iff,beq_eq_false_iff_ne] at h g;have e:x=y:=by
   have h1:=UInt8.not_lt.1 h.1;have h2:=UInt8.not_lt.1 g.1;exact UInt8.le_antisymm h2 h1
  subst e;have h2:=h.2.resolve_left (by simp);have g2:=g.2.resolve_left (by simp);rw[jfi h2 g2]
theorem jg4 (s t:ByteArray):ltS s t=Op.bytesLess s.data.toList t.data.toList:=by unfold ltS;rw[Lib.toList_data,Lib.toList_data]
theorem jM {s t:ByteArray}:eqS s t=true↔s=t:=by
 unfold eqS;rw[Lib.toList_data,Lib.toList_data,beq_iff_eq];exact⟨fun h=>Go.WideShapes.bytes_inj h,fun h=>by rw[h]⟩
theorem Yh (s:ByteArray):ltS s s=false:=by rw[jg4];exact jaS _
theorem zK {s t u:ByteArray} (h:ltS s t=true) (g:ltS t u=true):ltS s u=true:=by
 rw[jg4] at *;exact jcg h g
theorem Yv {s t:ByteArray} (h:ltS s t=false) (g:ltS t s=false):s=t:=by
 rw[jg4] at *;exact Go.WideShapes.bytes_inj (jfi h g)
theorem ZC {s t:ByteArray} (h:ltS s t=true):s≠t:=by rintro rfl;rw[Yh] at h;cases h
theorem qW {s t:ByteArray} (h:ltS s t=true) (g:ltS t s=true):False:=ZC (zK h g) rfl
def Gd (l:V):Prop:=(∀x ∈ l,isName x.1=true∧0<x.2∧x.2≤9223372036854775807)∧l.Pairwise (fun x y=>ltS x.1 y.1=true)
theorem Gd.nil:Gd []:=⟨fun x hx=>absurd hx (by simp),.nil⟩
theorem Gd.cons {x:ByteArray×Int} {t:V}:Gd (x::t)↔(isName x.1=true∧0<x.2∧x.2≤9223372036854775807)∧(∀y ∈ t,ltS x.1 y.1=true)∧Gd t:=by
 unfold Gd;rw[List.pairwise_cons,List.forall_mem_cons];constructor
 · rintro ⟨⟨a,b⟩,c,d⟩;exact⟨a,c,b,d⟩
 · rintro ⟨a,c,b,d⟩;exact⟨⟨a,b⟩,c,d⟩
theorem zX (x:ByteArray×Int) (t:V):jh (x::t) x.1=x.2:=by rw[jh,if_pos (jM.2 rfl)]
theorem Jg {x:ByteArray×Int} {n:ByteArray} (t:V) (h:x.1≠n):jh (x::t) n=jh t n:=by rw[jh,if_neg (fun e=>h (jM.1 e))]
theorem Xk:∀{l:V} {n:ByteArray},(∀y ∈ l,y.1≠n)→jh l n=0
 | [],_,_=>rfl
 | x::t,n,h=>by rw[Jg t (h x (by simp))];exact Xk fun y hy=>h y (by simp[hy])
theorem get_mem:∀{l:V} {n:ByteArray},jh l n≠0→∃y ∈ l,y.1=n
 | [],_,h=>absurd rfl h
 | x::t,n,h=>by
  by_cases e:x.1=n
  · exact⟨x,by simp,e⟩
  · rw[Jg t e] at h;obtain⟨y,hy,hn⟩:=get_mem h;exact⟨y,by simp[hy],hn⟩
theorem Je:∀{l:V} (n:ByteArray),Gd l→0≤jh l n∧jh l n≤9223372036854775807
 | [],_,_=>⟨Int.le_refl _,(by decide:(0:Int)≤9223372036854775807)⟩
 | x::t,n,h=>by
  have h':=Gd.cons.1 h;by_cases e:x.1=n
  · subst e;rw[zX];omega
  · rw[Jg t e];exact Je n h'.2.2
theorem jbL:∀{l:V} {x:ByteArray×Int},Gd l→x ∈ l→jh l x.1=x.2
 | [],_,_,h=>absurd h (by simp)
 | y::t,x,h,hx=>by
  have h':=Gd.cons.1 h;rcases List.mem_cons.1 hx with rfl | hx
  · exact zX _ _
  · rw[Jg t (ZC (h'.2.1 x hx))];exact jbL h'.2.2 hx
theorem JI {l:V} {n:ByteArray} (h:∀y ∈ l,ltS n y.1=true):jh l n=0:=Xk fun y hy=>(ZC (h y hy)).symm
theorem Gd.ext:∀{a b:V},Gd a→Gd b→(∀n,jh a n=jh b n)→a=b
 | [],[],_,_,_=>rfl
 | [],y::t,_,hb,h=>by
  have:=h y.1;rw[zX] at this;have:=(Gd.cons.1 hb).1;rw[show jh [] y.1=0 from rfl] at *;omega
 | x::s,[],ha,_,h=>by
  have:=h x.1;rw[zX] at this;have:=(Gd.cons.1 ha).1;rw[show jh [] x.1=0 from rfl] at *;omega
 | x::s,y::t,ha,hb,h=>by
  have ha':=Gd.cons.1 ha;have hb':=Gd.cons.1 hb;have e1:ltS x.1 y.1=false:=by
   cases e:ltS x.1 y.1 with
   | false=>rfl
   | true =>
    have hx:=h x.1;rw[zX,JI (l:=y::t) (fun z hz=>by
     rcases List.mem_cons.1 hz with rfl | hz
     · exact e
     · exact zK e (hb'.2.1 z hz))] at hx
    omega
  have e2:ltS y.1 x.1=false:=by
   cases e:ltS y.1 x.1 with
   | false=>rfl
   | true =>
    have hx:=h y.1;rw[zX,JI (l:=x::s) (fun z hz=>by
     rcases List.mem_cons.1 hz with rfl | hz
     · exact e
     · exact zK e (ha'.2.1 z hz))] at hx
    omega
  have e:=Yv e1 e2;have hv:x.2=y.2:=by have:=h x.1;rw[zX,e,zX] at this;exact this
  have ht:s=t:=Gd.ext ha'.2.2 hb'.2.2 fun n=>by
   by_cases en:x.1=n
   · rw[JI (fun z hz=>en▸ha'.2.1 z hz),JI (fun z hz=>en▸e▸hb'.2.1 z hz)]
   · have:=h n;rw[Jg s en,Jg t (by rw[←e];exact en)] at this;exact this
  obtain⟨x1,x2⟩:=x;obtain⟨y1,y2⟩:=y
  cases e;cases hv;rw[ht]
theorem Gd.len:∀{b r:V},Gd r→Gd b→(∀n,jh r n≠0→jh b n≠0)→r.length≤b.length
 | [],[],_,_,_=>Nat.le_refl _
 | [],x::s,hr,_,h=>by
  have:=h x.1;rw[zX] at this;have h1:=(Gd.cons.1 hr).1;exact absurd rfl (this (by omega))
 | y::t,[],_,_,_=>Nat.zero_le _
 | y::t,x::s,hr,hb,h=>by
  have hr':=Gd.cons.1 hr;have hb':=Gd.cons.1 hb;have:s.length≤t.length:=Gd.len hr'.2.2 hb'.2.2 fun n hn=>by
   obtain⟨z,hz,rfl⟩:=get_mem hn;have hlt:=hr'.2.1 z hz;have hb2:=h z.1 (by rw[Jg s (ZC hlt)];exact hn);by_cases e:y.1=z.1
   · obtain⟨u,hu,hux⟩:=get_mem (h x.1 (by rw[zX];omega));rcases List.mem_cons.1 hu with rfl | hu
     · rw[←hux,e,Yh] at hlt;cases hlt
     · have:=hb'.2.1 u hu;rw[hux,e] at this;exact(qW hlt this).elim
   · rw[Jg t e] at hb2;exact hb2
  simp only[List.length_cons];omega
theorem XJ {s t:ByteArray} (h:leS s t=false):ltS t s=true:=by
 unfold leS at h;rw[Bool.or_eq_false_iff] at h
 cases e:ltS t s with
 | true=>rfl
 | false=>rw[Yv h.1 e,jM.2 rfl] at h;cases h.2
theorem jar {s t:ByteArray} (h:ltS t s=true):leS s t=false:=by
 unfold leS;rw[Bool.or_eq_false_iff];refine⟨?_,?_⟩
 · cases e:ltS s t with
   | false=>rfl
   | true=>exact(qW h e).elim
 · cases e:eqS s t with
   | false=>rfl
   | true=>exact absurd (jM.1 e).symm (ZC h)
theorem Yd {l:V} (h:jv l=0) (hf:Ja l):Gd l:=by
 have h2:jI none l=0:=by
  unfold jv at h;split at h
  · cases h
  · exact h
 have key:∀(l:V) (p:Option ByteArray),jI p l=0→Ja l→Gd l∧(∀x,p=some x→∀y ∈ l,ltS x y.1=true):=by
  intro l
  induction l with
  | nil=>intro p _ _;exact⟨Gd.nil,fun _ _ y hy=>absurd hy (by simp)⟩
  | cons x t ih =>
   intro p hc hf;rw[Ja.cons] at hf;unfold jI at hc;split at hc
   · cases hc
   · rename_i n1;split at hc
     · cases hc
     · rename_i n2;split at hc
       · cases hc
       · rename_i n3;obtain⟨hg,hall⟩:=ih _ hc hf.2;have hx:=hall x.1 rfl;refine⟨Gd.cons.2 ⟨⟨by simpa using n1,by omega,hf.1.2.2⟩,hx,hg⟩,?_⟩;rintro q rfl y hy;have hq:ltS q x.1=true:=XJ (by simpa [jG] using n3);rcases List.mem_cons.1 hy with rfl | hy
         · exact hq
         · exact zK hq (hx y hy)
 exact(key l none h2 hf).1
theorem jb8 {l:V} (h:Gd l) (hl:l.length≤8):jv l=0:=by
 have key:∀(l:V) (p:Option ByteArray),Gd l→(∀x,p=some x→∀y ∈ l,ltS x y.1=true)→jI p l=0:=by
  intro l
  induction l with
  | nil=>intro p _ _;cases p<;>rfl
  | cons x t ih =>
   intro p hg hp;have hg':=Gd.cons.1 hg;rw[jI,if_neg (by rw[hg'.1.1];decide),if_neg (by omega),if_neg]
   · exact ih _ hg'.2.2 fun q e y hy=>by cases e;exact hg'.2.1 y hy
   · cases p with
     | none=>simp[jG]
     | some q=>rw[show jG (some q) x.1=leS x.1 q from rfl,jar (hp q rfl x (by simp))];decide
 unfold jv;rw[if_neg (by omega)];exact key l none h (fun _ e=>by cases e)
theorem Xx {l:V} {s:ByteArray} (hg:Gd l) (h:∀y ∈ l,y.1=s∨ltS s y.1=true) :
 (jq l s).1=jh l s∧Gd (jq l s).2∧(∀y ∈ (jq l s).2,ltS s y.1=true)∧(∀n,n≠s→jh (jq l s).2 n=jh l n)∧(∀m,(∀y ∈ l,ltS m y.1=true)→∀y ∈ (jq l s).2,ltS m y.1=true):=by
 cases l with
 | nil=>exact⟨rfl,hg,fun y hy=>absurd hy (by simp[jq]),fun _ _=>rfl,fun _ _ y hy=>absurd hy (by simp[jq])⟩
 | cons x t =>
  have hg':=Gd.cons.1 hg;rw[zx];by_cases e:x.1=s
  · rw[if_pos (jM.2 e)];subst e;exact⟨(zX x t).symm,hg'.2.2,hg'.2.1,fun n hn=>(Jg t (Ne.symm hn)).symm,fun m hm y hy=>hm y (by simp[hy])⟩
  · rw[if_neg (fun c=>e (jM.1 c))];have hx:ltS s x.1=true:=(h x (by simp)).resolve_left e;have hall:∀y ∈ x::t,ltS s y.1=true:=fun y hy=>by
     rcases List.mem_cons.1 hy with rfl | hy
     · exact hx
     · exact zK hx (hg'.2.1 y hy)
    exact⟨(JI hall).symm,hg,hall,fun _ _=>rfl,fun m hm=>hm⟩
theorem qS {la lb:V} (ha:Gd la) (hb:Gd lb) (h:0<la.length+lb.length) :
 isName (jl la lb)=true∧(∀y ∈ la,y.1=jl la lb∨ltS (jl la lb) y.1=true)∧(∀y ∈ lb,y.1=jl la lb∨ltS (jl la lb) y.1=true) ∧
  (∀m,(∀y ∈ la,ltS m y.1=true)→(∀y ∈ lb,ltS m y.1=true)→ltS m (jl la lb)=true):=by
 have own:∀{x:ByteArray×Int} {t:V},Gd (x::t)→∀y ∈ x::t,y.1=x.1∨ltS x.1 y.1=true:=fun {x t} hg y hy=>by
  rcases List.mem_cons.1 hy with rfl | hy
  · exact .inl rfl
  · exact .inr ((Gd.cons.1 hg).2.1 y hy)
 cases la with
 | nil =>
  cases lb with
  | nil=>simp at h
  | cons y t=>exact⟨(Gd.cons.1 hb).1.1,fun z hz=>absurd hz (by simp),own hb,fun m _ hm=>hm y (by simp)⟩
 | cons x s =>
  cases lb with
  | nil=>exact⟨(Gd.cons.1 ha).1.1,own ha,fun z hz=>absurd hz (by simp),fun m hm _=>hm x (by simp)⟩
  | cons y t =>
   rw[JH];by_cases e:ltS y.1 x.1=true
   · rw[if_pos e];refine⟨(Gd.cons.1 hb).1.1,fun z hz=>.inr ?_,own hb,fun m _ hm=>hm y (by simp)⟩;rcases own ha z hz with hz | hz
     · rw[hz];exact e
     · exact zK e hz
   · rw[if_neg e];refine⟨(Gd.cons.1 ha).1.1,own ha,fun z hz=>?_,fun m hm _=>hm x (by simp)⟩;have e':ltS y.1 x.1=false:=by simpa using e
     have hxy:y.1=x.1∨ltS x.1 y.1=true:=by
      cases e2:ltS x.1 y.1 with
      | true=>exact .inr rfl
      | false=>exact .inl (Yv e' e2)
     rcases own hb z hz with hz | hz
     · rw[hz];exact hxy
     · rcases hxy with hxy | hxy
       · rw[←hxy];exact .inr hz
       · exact .inr (zK hxy hz)
structure Rk (f:Int→Int→Int×Int):Prop where
 zero:f 0 0=(0,0)
 code:∀x y,0≤x∧x≤9223372036854775807→0≤y∧y≤9223372036854775807→(f x y).2=0∨(f x y).2=5
 bd:∀x y,0≤x∧x≤9223372036854775807→0≤y∧y≤9223372036854775807→0≤(f x y).1∧(f x y).1≤9223372036854775807
theorem jja:Rk jD:=by
 refine⟨by decide,fun x y hx hy=>?_,fun x y hx hy=>jcA hx hy⟩;unfold jD;split
 · exact .inl rfl
 · exact .inr rfl
theorem ji5:Rk j5:=by
 refine⟨by decide,fun x y hx hy=>?_,fun x y hx hy=>jgE hx hy⟩;unfold j5;split
 · exact .inl rfl
 · exact .inr rfl
def Made (f:ByteArray→Int) (r:V):Prop:=Gd r∧∀n,jh r n=f n
theorem jh8 {r:V} {s:ByteArray} {v:Int} {g g':ByteArray→Int} (hr:Made g' r) (hs:isName s=true) (hv:0≤v∧v≤9223372036854775807) (hall:∀y ∈ r,ltS s y.1=true)
 (h1:g s=v) (h2:∀n,n≠s→g n=g' n):∃r',(∀acc,ZU acc s v++r=acc++r')∧Made g r'∧(∀m,ltS m s=true→(∀y ∈ r,ltS m y.1=true)→∀y ∈ r',ltS m y.1=true)∧r'.length≤r.length+1:=by
 by_cases e:v=0
 · refine⟨r,fun acc=>by unfold ZU;rw[if_pos e],⟨hr.1,fun n=>?_⟩,fun m _ h=>h,by omega⟩;by_cases en:n=s
   · subst en;rw[JI hall,h1,e]
   · rw[hr.2 n,h2 n en]
 · refine⟨(s,v)::r,fun acc=>by unfold ZU;rw[if_neg e];simp,⟨Gd.cons.2 ⟨⟨hs,by omega,hv.2⟩,hall,hr.1⟩,fun n=>?_⟩,fun m hm h y hy=>?_,by simp⟩
   · by_cases en:n=s
     · subst en;rw[zX (n,v) r,h1]
     · rw[Jg (x:=(s,v)) r (fun c=>en c.symm),hr.2 n,h2 n en]
   · rcases List.mem_cons.1 hy with rfl | hy
     · exact hm
     · exact h y hy
theorem merge_spec {f:Int→Int→Int×Int} (hf:Rk f):∀(fuel:Nat) (la lb:V),la.length+lb.length≤fuel→Gd la→Gd lb →
 ((∃n,(f (jh la n) (jh lb n)).2≠0)∧∀acc,jW f fuel la lb acc=(5,[])) ∨
 ((∀n,(f (jh la n) (jh lb n)).2=0)∧∃r,(∀acc,jW f fuel la lb acc=(0,acc++r))∧Made (fun n=>(f (jh la n) (jh lb n)).1) r ∧
   (∀m,(∀y ∈ la,ltS m y.1=true)→(∀y ∈ lb,ltS m y.1=true)→∀y ∈ r,ltS m y.1=true)):=by
 intro fuel
 induction fuel with
 | zero =>
  intro la lb hl ha hb;have e1:la=[]:=List.eq_nil_of_length_eq_zero (by omega);have e2:lb=[]:=List.eq_nil_of_length_eq_zero (by omega);subst e1;subst e2;refine .inr ⟨fun n=>by rw[show jh [] n=0 from rfl,hf.zero],[],fun acc=>by rw[jW,List.append_nil],⟨Gd.nil,fun n=>by show (0:Int)=(f 0 0).1;rw[hf.zero]⟩,fun m _ _ y hy=>absurd hy (by simp)⟩
 | succ fuel ih =>
  intro la lb hl ha hb;by_cases h0:la.length+lb.length=0
  · have e1:la=[]:=List.eq_nil_of_length_eq_zero (by omega);have e2:lb=[]:=List.eq_nil_of_length_eq_zero (by omega);subst e1;subst e2;refine .inr ⟨fun n=>by rw[show jh [] n=0 from rfl,hf.zero],[],fun acc=>by rw[jax (by simp),List.append_nil],⟨Gd.nil,fun n=>by show (0:Int)=(f 0 0).1;rw[hf.zero]⟩,fun m _ _ y hy=>absurd hy (by simp)⟩
  · obtain⟨hs,hsa,hsb,hsm⟩:=qS ha hb (by omega);have hless:=qb (la:=la) (lb:=lb) (by omega);obtain⟨s,es⟩:=eX (jl la lb)
    have hstep:∀acc,jW f (fuel+1) la lb acc=if (f (jq la s).1 (jq lb s).1).2≠0 then ((f (jq la s).1 (jq lb s).1).2,[]) else jW f fuel (jq la s).2 (jq lb s).2 (ZU acc s (f (jq la s).1 (jq lb s).1).1):=fun acc=>by
     rw[jW,if_neg h0];dsimp only;rw[es]
    rw[es] at hs hsa hsb hsm hless;obtain⟨a1,a2,a3,a4,a5⟩:=Xx ha hsa;obtain⟨b1,b2,b3,b4,b5⟩:=Xx hb hsb;rw[a1,b1] at hstep;have hca:=Je s ha;have hcb:=Je s hb;by_cases hx:(f (jh la s) (jh lb s)).2=0
    · have hstep2:∀acc,jW f (fuel+1) la lb acc=jW f fuel (jq la s).2 (jq lb s).2 (ZU acc s (f (jh la s) (jh lb s)).1):=fun acc=>by
       rw[hstep acc,if_neg (by rw[hx];decide)]
      have e0:∀n,n=s→f (jh (jq la s).2 n) (jh (jq lb s).2 n)=(0,0):=fun n hn=>by
       subst hn;rw[JI a3,JI b3,hf.zero]
      rcases ih (jq la s).2 (jq lb s).2 (by omega) a2 b2 with ⟨⟨n,hn⟩,hbad⟩ | ⟨hgood,r,hr,hm,hmin⟩
      · refine .inl ⟨⟨n,?_⟩,fun acc=>by rw[hstep2,hbad]⟩;by_cases en:n=s
        · rw[e0 n en] at hn;exact absurd rfl hn
        · rw[a4 n en,b4 n en] at hn;exact hn
      · obtain⟨r',h1,h2,h3,_⟩:=jh8 (s:=s) (v:=(f (jh la s) (jh lb s)).1) (g:=fun n=>(f (jh la n) (jh lb n)).1) hm hs (hf.bd _ _ hca hcb) (hmin s a3 b3) rfl
         (fun n hn=>by show _=_;rw[a4 n hn,b4 n hn])
        refine .inr ⟨fun n=>?_,r',fun acc=>by rw[hstep2,hr,h1],h2,fun m hma hmb=>h3 m (hsm m hma hmb) (hmin m (a5 m hma) (b5 m hmb))⟩;by_cases en:n=s
        · rw[en];exact hx
        · have:=hgood n;rw[a4 n en,b4 n en] at this;exact this
    · refine .inl ⟨⟨s,hx⟩,fun acc=>?_⟩;rw[hstep acc,if_pos hx,(hf.code _ _ hca hcb).resolve_left hx]
theorem merged_spec {f:Int→Int→Int×Int} (hf:Rk f) {l l':V} (h:Gd l) (h':Gd l') (hl:l.length≤8) (hl':l'.length≤8) :
 ((∃n,(f (jh l n) (jh l' n)).2≠0)∧jj f l l'=(5,[])) ∨
 ((∀n,(f (jh l n) (jh l' n)).2=0)∧∃r,Made (fun n=>(f (jh l n) (jh l' n)).1) r∧((8<r.length∧jj f l l'=(4,[]))∨(r.length≤8∧jj f l l'=(0,r)))):=by
 have e:jj f l l'=(let r:=jW f (l.length+l'.length) l l' [];if r.1≠0 then (r.1,[]) else if 8<r.2.length then (4,[]) else (0,r.2)):=by
  rw[jj,if_neg (by rw[jb8 h hl];decide),if_neg (by rw[jb8 h' hl'];decide)]
 rcases merge_spec hf (l.length+l'.length) l l' (Nat.le_refl _) h h' with ⟨hn,hb⟩ | ⟨hn,r,hr,hm,_⟩
 · exact .inl ⟨hn,by rw[e,hb];rfl⟩
 · refine .inr ⟨hn,r,hm,?_⟩;rw[e,hr];by_cases h8:8<r.length
   · exact .inl ⟨h8,by simp[h8]⟩
   · exact .inr ⟨by omega,by simp[h8]⟩
theorem jd8:∀{l h:V},jx h l=true↔∀x ∈ l,x.2≤jh h x.1
 | [],h=>⟨fun _ x hx=>absurd hx (by simp),fun _=>rfl⟩
 | x::t,h=>by
  rw[jx,Bool.and_eq_true,decide_eq_true_eq,jd8,List.forall_mem_cons]
theorem YF {l h:V} (hl:Gd l) (hh:Gd h):jx h l=true↔∀n,jh l n≤jh h n:=by
 rw[jd8];constructor
 · intro hx n;by_cases e:jh l n=0
   · rw[e];exact(Je n hh).1
   · obtain⟨x,hm,rfl⟩:=get_mem e;rw[jbL hl hm];exact hx x hm
 · intro hn x hx;have:=hn x.1;rw[jbL hl hx] at this;exact this
theorem jdn (x y:Int):(j5 x y).2=0↔y≤x:=by
 unfold j5;split
 · simp only[true_iff];assumption
 · constructor
   · intro h;cases h
   · intro h;contradiction
theorem XK (x y:Int):(jD x y).2=0↔x+y≤9223372036854775807:=by
 unfold jD;split
 · simp only[true_iff];assumption
 · constructor
   · intro h;cases h
   · intro h;contradiction
theorem jjR {x y:Int} (h:y≤x):j5 x y=(x-y,0):=by unfold j5;rw[if_pos h]
theorem jbc {x y:Int} (h:x+y≤9223372036854775807):jD x y=(x+y,0):=by unfold jD;rw[if_pos h]
theorem jbg {l l':V} (h:Gd l) (h':Gd l') (hl:l.length≤8) (hl':l'.length≤8) (hf:∀n,jh l' n≤jh l n) :
 ∃r,jj j5 l l'=(0,r)∧Made (fun n=>jh l n-jh l' n) r∧r.length≤8:=by
 rcases merged_spec ji5 h h' hl hl' with ⟨⟨n,hn⟩,_⟩ | ⟨_,r,hm,hr⟩
 · exact absurd ((jdn _ _).2 (hf n)) hn
 · have hm':Made (fun n=>jh l n-jh l' n) r:=⟨hm.1,fun n=>by rw[hm.2 n];show (j5 _ _).1=_;rw[jjR (hf n)]⟩
   have hlen:r.length≤l.length:=Gd.len hm.1 h fun n hn=>by
    rw[hm'.2 n] at hn;dsimp only at hn;have h1:=Je n h;have h2:=Je n h';have:=hf n;omega
   rcases hr with ⟨h8,_⟩ | ⟨h8,e⟩
   · omega
   · exact⟨r,e,hm',h8⟩
theorem jkp {l l':V} (h:Gd l) (h':Gd l') (hl:l.length≤8) (hl':l'.length≤8):((jj j5 l l').1=0)↔jx l l'=true:=by
 rw[YF h' h];constructor
 · intro e;rcases merged_spec ji5 h h' hl hl' with ⟨⟨n,hn⟩,hb⟩ | ⟨hn,_⟩
   · rw[hb] at e;cases e
   · exact fun n=>(jdn _ _).1 (hn n)
 · intro hf;obtain⟨r,e,_⟩:=jbg h h' hl hl' hf;rw[e]
theorem jkm {l l' r:V} (h:Gd l) (h':Gd l') (hl:l.length≤8) (hl':l'.length≤8) (hs:∀n,jh l n+jh l' n≤9223372036854775807) (hr:Made (fun n=>jh l n+jh l' n) r) (h8:r.length≤8):jj jD l l'=(0,r):=by
 rcases merged_spec jja h h' hl hl' with ⟨⟨n,hn⟩,_⟩ | ⟨hn,q,hm,hq⟩
 · exact absurd ((XK _ _).2 (hs n)) hn
 · have e:q=r:=Gd.ext hm.1 hr.1 fun n=>by rw[hm.2 n,hr.2 n];show (jD _ _).1=_;rw[jbc (hs n)]
   subst e;rcases hq with ⟨h9,_⟩ | ⟨_,e⟩
   · omega
   · exact e
theorem Reads.fine {v:Value} {l:V} {w:World} (h:Reads w v l):Ja l:=by
 obtain⟨a,cap,rfl,h1,h2,h3⟩:=h;exact h3.2.2.1
open Go.ChangeShapes Go.WideShapes Go.ChangeAt Go.RowKit Go.Deep
theorem jiy:Tryz.prog.cellsOf 114=2:=by kernel_rfl
theorem Zc:Tryz.prog.cellsOf 9=1:=by kernel_rfl
theorem X2:Tryz.prog.cellsOf 2=1:=by kernel_rfl
theorem jcz {H:Type} {enc:TypeId×Value→H} {w:World} {base fuel:Nat} {sp:Nat→Bool} {held:Bool} {cs:List Value} {x:DataW H×List MemPlace} (h:DataW.trod enc Tryz.prog w base sp held fuel 114 cs=some x) :
 ∃(s:ByteArray) (n:Int),cs=[.string s,.int .i64 n]∧s.size≤maxLen∧-9223372036854775808≤n∧n≤9223372036854775807:=by
 obtain⟨ys,m,-,-,hlen,hyl,hf⟩:=DataW.trod_struct Tryz.underlying114 h;rw[jiy] at hlen
 match cs,hlen with
 | [c0,c1],_ =>
  have h0:DataW.trod enc Tryz.prog w base sp held m 9 (([c0,c1].drop 0).take (Tryz.prog.cellsOf 9))=ys[0]?:=hf 0 _ rfl;have h1:DataW.trod enc Tryz.prog w base sp held m 2 (([c0,c1].drop 1).take (Tryz.prog.cellsOf 2))=ys[1]?:=hf 1 _ rfl;rw[Zc] at h0;rw[X2] at h1;obtain⟨y0,e0⟩:∃y,ys[0]?=some y:=⟨_,List.getElem?_eq_getElem (by rw[hyl];decide)⟩
  obtain⟨y1,e1⟩:∃y,ys[1]?=some y:=⟨_,List.getElem?_eq_getElem (by rw[hyl];decide)⟩
  rw[e0] at h0;rw[e1] at h1;obtain⟨s,q0,-,hs⟩:=DataW.trod_string Tryz.underlying9 h0;obtain⟨n,q1,-,hn⟩:=DataW.trod_int Tryz.underlying2 h1;simp only[List.drop_zero,List.take_succ_cons,List.take_zero,List.cons.injEq,and_true,List.drop_succ_cons] at q0 q1;subst q0;subst q1;have:=bounds_i64 hn;exact⟨s,n,rfl,hs,this.1,this.2⟩
theorem jgv {l m:V} {i:Nat} (h:i<l.length):nm (l++m) i=nm l i∧qn (l++m) i=qn l i:=by
 unfold nm qn;simp[List.getD,List.getElem?_append_left h]
theorem jgM (l:V) (s:ByteArray) (n:Int):nm (l++[(s,n)]) l.length=s∧qn (l++[(s,n)]) l.length=n:=by
 unfold nm qn;simp[List.getD]
theorem zu {H:Type} {enc:TypeId×Value→H} {w:World} {base fuel:Nat} {sp:Nat→Bool} {held:Bool} {v:Value} {x:DataW H×List MemPlace} (h:DataW.trod enc Tryz.prog w base sp held fuel 45 [v]=some x) :
 ∃l,Reads w v l:=by
 rcases open_slice Tryz.underlying45 h with ⟨hcs,-⟩ | ⟨a,len,cap,m,n,D,Pl,hcs,hb,hl,hm,hmm,hx,hi⟩
 · cases hcs;exact⟨[],Reads.nil w⟩
 · cases hcs
   have hlm:len≤m:=by rw[hmm];split<;>omega
   have key:∀k,k≤len→∃l:V,l.length=k∧∀i,i<k→((nm l i).size≤maxLen∧-9223372036854775808≤qn l i∧qn l i≤9223372036854775807) ∧
    w.cell? ((a.add (i*2)).add 0)=some (.string (nm l i))∧w.cell? ((a.add (i*2)).add 1)=some (.int .i64 (qn l i)):=by
    intro k
    induction k with
    | zero=>exact fun _=>⟨[],rfl,fun i hi=>absurd hi (by omega)⟩
    | succ k ih =>
     intro hk;obtain⟨l,e,hall⟩:=ih (by omega);obtain⟨cs',hc,ht'⟩:=hi k (by omega);obtain⟨s,q,rfl,b1,b2,b3⟩:=jcz ht';rw[jiy] at hc;obtain⟨-,-,hat⟩:=World.cells?_some hc;refine⟨l++[(s,q)],by simp[e],fun i hi=>?_⟩;by_cases e2:i=k
     · subst e2;subst e;rw[(jgM l s q).1,(jgM l s q).2];exact⟨⟨b1,b2,b3⟩,hat 0 (by decide),hat 1 (by decide)⟩
     · rw[(jgv (by omega)).1,(jgv (by omega)).2];exact hall i (by omega)
   obtain⟨l,e,hall⟩:=key len (Nat.le_refl _);subst e;refine⟨l,_,cap,rfl,hl,hm,rfl,Nat.le_trans hl hm,fun i hi=>(hall i hi).1,?_⟩;by_cases h0:l.length=0
   · exact .inl h0
   · obtain⟨b,off,spot⟩:=a;have hc:=(hall 0 (by omega)).2.1;have hspot:spot=none:=by simpa [Addr.add] using World.cell?_spot hc
     subst hspot;have hcell:∀i,i<l.length→w.cell? ⟨b,off+i*2,none⟩=some (.string (nm l i))∧w.cell? ⟨b,off+i*2+1,none⟩=some (.int .i64 (qn l i)):=fun i hi=>by
      have c:=(hall i hi).2;by_cases hi0:i=0
      · subst hi0;simpa [Addr.add] using c
      · have h2:¬i*2=0:=by omega
        simpa [Addr.add,h2] using c
     exact .inr ⟨b,off,rfl,World.block_lt_of_cell? _ _ (hcell 0 (by omega)).1,hcell⟩
end Go.Proofs.YtibepooajeakfaaGreat.Vec
namespace Go.Proofs.YtibepooajeakfaaGreat
open Go.RowKit
abbrev PL:=List (ByteArray×ByteArray)
abbrev TL:=List (Int×ByteArray×ByteArray)
def jG (prev:Option ByteArray) (s:ByteArray):Bool:=match prev with | none=>false | some p=>leS s p
def Y7 (l:PL) (k:Nat):Option ByteArray:=if k=0 then none else (l[k-1]?).map (·.1)
def Jm:Option ByteArray→PL→Int
 | _,[]=>0
 | prev,x::t=>if (isName x.1&&isName x.2)=false then 3 else if jG prev x.1=true then 13 else Jm (some x.1) t
def YX (l:PL):Int:=if 8<l.length then 4 else Jm none l
theorem YI {l:PL} {k:Nat} (h:k=0) (s:ByteArray):jG (Y7 l k) s=false:=by unfold Y7;rw[if_pos h];rfl
theorem YH {l:PL} {k:Nat} {x y:ByteArray} (h:¬k=0) (hx:l[k-1]?=some (x,y)) (s:ByteArray):jG (Y7 l k) s=leS s x:=by unfold Y7;rw[if_neg h,hx];rfl
theorem XO {l:PL} {k:Nat} {x y:ByteArray} (hx:l[k]?=some (x,y)):Y7 l (k+1)=some x:=by unfold Y7;rw[if_neg (by omega),Nat.add_sub_cancel,hx];rfl
theorem Xg {p:Option ByteArray} {x y:ByteArray} {t:PL} (n:(isName x&&isName y)=false):Jm p ((x,y)::t)=3:=by rw[Jm,if_pos n]
theorem XL {p:Option ByteArray} {x y:ByteArray} {t:PL} (n1:isName x=true) (n2:isName y=true) (b:jG p x=true):Jm p ((x,y)::t)=13:=by
 rw[Jm,if_neg (by dsimp only;rw[n1,n2];decide),if_pos b]
theorem ZX {p:Option ByteArray} {x y:ByteArray} {t:PL} (n1:isName x=true) (n2:isName y=true) (b:jG p x=false):Jm p ((x,y)::t)=Jm (some x) t:=by
 rw[Jm,if_neg (by dsimp only;rw[n1,n2];decide),if_neg (by dsimp only;rw[b];decide)]
abbrev TV (o:Int) (x y:ByteArray):Value:=.agg #[.int .i64 o,.string x,.string y]
def YG (t:Int×ByteArray×ByteArray):Int :=
 if t.1=1∨t.1=2 then (if (isName t.2.1&&isName t.2.2)=true then 0 else 3)
 else if t.1=3∨t.1=4 then (if (isName t.2.1&&eqS t.2.2 ByteArray.empty)=true then 0 else 3)
 else 1
def Y0:TL→Int
 | []=>0
 | t::r=>if YG t≠0 then YG t else Y0 r
def Xa (l:TL):Int:=if 8<l.length then 4 else Y0 l
theorem Z7 {o:Int} {x y:ByteArray}:YG (o,x,y)=if o=1∨o=2 then (if (isName x&&isName y)=true then 0 else 3)
 else if o=3∨o=4 then (if (isName x&&eqS y ByteArray.empty)=true then 0 else 3) else 1:=rfl
theorem jg0 (t:Int×ByteArray×ByteArray) (r:TL):Y0 (t::r)=if YG t≠0 then YG t else Y0 r:=rfl
def zO:PL→ByteArray→Option ByteArray
 | [],_=>none
 | x::t,n=>if eqS x.1 n=true then some x.2 else zO t n
def Xq (s:PL) (n:ByteArray):ByteArray:=(zO s n).getD ByteArray.empty
def ZZ (s:PL) (n:ByteArray):Bool:=(zO s n).isSome
theorem jjc (x y:ByteArray) (t:PL) (n:ByteArray):zO ((x,y)::t) n=if eqS x n=true then some y else zO t n:=rfl
theorem jcv {s:PL} {n:ByteArray} {o:Option ByteArray} (h:zO s n=o):Ending.returned (.tuple #[.string (o.getD ByteArray.empty),.bool o.isSome])=.returned (.tuple #[.string (Xq s n),.bool (ZZ s n)]):=by
 unfold Xq ZZ;rw[h]
theorem jdo {s:PL} {n v:ByteArray} (hf:∀x ∈ s,jy.fine x) (h:zO s n=some v):v.size≤maxLen:=by
 induction s with
 | nil=>cases h
 | cons x t ih =>
  rw[zO] at h;split at h
  · injection h with h;subst h;exact(hf x (by simp)).2
  · exact ih (fun y hy=>hf y (by simp[hy])) h
theorem Y9 (a:Option Addr) (len cap:Nat) (l:PL) (n:ByteArray) (w:World) (hr:jn jy w a len l) :
 Calls Tryz.prog 247 #[.slice a len cap,.string n] w fun e w'=>e=.returned (.tuple #[.string (Xq l n),.bool (ZZ l n)])∧Kept w w':=by
 have hl:=hr.1;have hm:=hr.2.1;unfold maxLen at hm;rcases hr.form with h0 | ⟨b,off,rfl⟩
 · subst h0;have HE:=lH (show zO l n=none by rw[List.eq_nil_of_length_eq_zero hl];rfl);clear hr hl;go_enter Tryz.func247,Tryz.ntmps247;go_wp2;refine wp_loop_rounds 1 ?_;rw[rounds_succ];go_wp2;go_ret2
   exact⟨jcv HE.out,Kept.refl _⟩
 · have HR:=lH hr;have HL:=lH hl;clear hr hl;go_enter Tryz.func247,Tryz.ntmps247;go_wp2;go_loopw [10] (fun i wr=>∃k:Nat,k≤len∧i=.int .i64 k∧zO (l.drop k) n=zO l n∧Kept w wr) (fun i _=>len-(intOf i).toNat)
   case atStart=>exact⟨0,Nat.zero_le _,rfl,rfl,Kept.refl _⟩
   case round =>
    obtain⟨k,hk,rfl,hrest,hK⟩:=hrel;by_cases hlt:k<len
    · obtain⟨x,y,hx,hd,hb,hz,hz2,c1,c2⟩:=(HR.out.kept hK).pair hlt;have HK:=lH hK;have HT:=lH (hrest.symm.trans ((congrArg (fun z=>zO z n) hd).trans (jjc _ _ _ _)));clear hK hrest hx hd;by_cases e:eqS x n=true
      · have E:=lH e;have e':(x.toList==n.toList)=true:=e;clear e;go_wp2;go_ret2
        exact⟨jcv (HT.out.trans (if_pos E.out)),HK.out.trans (ja _ _)⟩
      · have E:=lH e;have e':(x.toList==n.toList)=false:=by unfold eqS at e;simpa using e
        clear e;go_wp2;go_roundw
        case rel=>exact⟨k+1,by omega,by go_num,(HT.out.trans (if_neg E.out)).symm,HK.out.trans (ja _ _)⟩
        case measure=>simp[intOf];omega
    · have HK:=lH hK;have HS:=lH (hrest.symm.trans (congrArg (fun z=>zO z n) (zZ (by rw[HL.out];exact hlt))));clear hK hrest;go_wp2;go_ret2
      exact⟨jcv (HS.out.trans rfl),HK.out⟩
def Zo (s:PL) (t:Int×ByteArray×ByteArray):Bool :=
 if t.1=1 then ZZ s t.2.1&&eqS (Xq s t.2.1) t.2.2
 else if t.1=2 then !ZZ s t.2.1||!eqS (Xq s t.2.1) t.2.2
 else if t.1=3 then ZZ s t.2.1
 else if t.1=4 then !ZZ s t.2.1 else false
theorem YQ {s:PL} {o:Int} {x y:ByteArray}:Zo s (o,x,y)=if o=1 then ZZ s x&&eqS (Xq s x) y else if o=2 then !ZZ s x||!eqS (Xq s x) y else if o=3 then ZZ s x else if o=4 then !ZZ s x else false:=rfl
theorem jcY (o:Int) (x y:ByteArray) (a:Option Addr) (len cap:Nat) (s:PL) (w:World) (hr:jn jy w a len s) :
 Calls Tryz.prog 224 #[TV o x y,.slice a len cap] w fun e w'=>e=.returned (.bool (Zo s (o,x,y)))∧Kept w w':=by
 have HG:=lH (fun (w':World) (k:Kept w w')=>Y9 a len cap s x w' (hr.kept k));obtain⟨v,hv⟩:=eX (Xq s x)
 obtain⟨h,hh⟩:=eX (ZZ s x)
 obtain⟨q,hq⟩:=eX (eqS v y)
 have hq':(v.toList==y.toList)=q:=hq;rw[hv,hh] at HG;clear hr;by_cases h1:o=1
 · subst h1;have HV:=lH (show Zo s (1,x,y)=(h&&q) by rw[YQ,if_pos rfl,hv,hh,hq]);clear hv hh hq
   cases h<;>cases q <;>
   (go_enter Tryz.func224,Tryz.ntmps224
    go_wp2_with (go_at_call 247;refine(HG.out _ (ja _ _)).mono ?_;rintro e w1 ⟨rfl,k1⟩;have K1:=lH k1;have c3:=cell_later k1 (show (w.alloc (.cells #[.int .i64 1,.string x,.string y] 143)).cell? ⟨w.heap.size,2,none⟩=some (.string y) by go_simp);have c0:=cell_later k1 (show (w.alloc (.cells #[.int .i64 1,.string x,.string y] 143)).cell? ⟨w.heap.size,0,none⟩=some (.int .i64 1) by go_simp);clear k1)
    go_ret;exact⟨jf HV.out.symm,(ja _ _).trans K1.out⟩)
 · by_cases h2:o=2
   · subst h2;have HV:=lH (show Zo s (2,x,y)=(!h||!q) by rw[YQ,if_neg (by decide),if_pos rfl,hv,hh,hq]);clear hv hh hq h1
     cases h<;>cases q <;>
     (go_enter Tryz.func224,Tryz.ntmps224
      go_wp2_with (go_at_call 247;refine(HG.out _ (ja _ _)).mono ?_;rintro e w1 ⟨rfl,k1⟩;have K1:=lH k1;have c3:=cell_later k1 (show (w.alloc (.cells #[.int .i64 2,.string x,.string y] 143)).cell? ⟨w.heap.size,2,none⟩=some (.string y) by go_simp);have c0:=cell_later k1 (show (w.alloc (.cells #[.int .i64 2,.string x,.string y] 143)).cell? ⟨w.heap.size,0,none⟩=some (.int .i64 2) by go_simp);clear k1)
      go_ret;exact⟨jf HV.out.symm,(ja _ _).trans K1.out⟩)
   · by_cases h3:o=3
     · subst h3;have HV:=lH (show Zo s (3,x,y)=h by rw[YQ,if_neg (by decide),if_neg (by decide),if_pos rfl,hh]);clear hv hh hq h1 h2;go_enter Tryz.func224,Tryz.ntmps224;go_wp2_with (go_at_call 247;refine(HG.out _ (ja _ _)).mono ?_;rintro e w1 ⟨rfl,k1⟩;have K1:=lH k1;have c0:=cell_later k1 (show (w.alloc (.cells #[.int .i64 3,.string x,.string y] 143)).cell? ⟨w.heap.size,0,none⟩=some (.int .i64 3) by go_simp);clear k1)
       go_ret;exact⟨jf HV.out.symm,(ja _ _).trans K1.out⟩
     · by_cases h4:o=4
       · subst h4;have HV:=lH (show Zo s (4,x,y)=!h by rw[YQ,if_neg (by decide),if_neg (by decide),if_neg (by decide),if_pos rfl,hh]);clear hv hh hq h1 h2 h3;go_enter Tryz.func224,Tryz.ntmps224;go_wp2_with (go_at_call 247;refine(HG.out _ (ja _ _)).mono ?_;rintro e w1 ⟨rfl,k1⟩;have K1:=lH k1;have c0:=cell_later k1 (show (w.alloc (.cells #[.int .i64 4,.string x,.string y] 143)).cell? ⟨w.heap.size,0,none⟩=some (.int .i64 4) by go_simp);clear k1)
         go_ret;exact⟨jf HV.out.symm,(ja _ _).trans K1.out⟩
       · have HV:=lH (show Zo s (o,x,y)=false by rw[YQ,if_neg h1,if_neg h2,if_neg h3,if_neg h4]);have e1:(o==1)=false:=by simpa using h1
         have e2:(o==2)=false:=by simpa using h2
         have e3:(o==3)=false:=by simpa using h3
         have e4:(o==4)=false:=by simpa using h4
         clear hv hh hq h1 h2 h3 h4;go_enter Tryz.func224,Tryz.ntmps224;go_wp2_with (go_at_call 247;refine(HG.out _ (ja _ _)).mono ?_;rintro e w1 ⟨rfl,k1⟩;have K1:=lH k1;have c0:=cell_later k1 (show (w.alloc (.cells #[.int .i64 o,.string x,.string y] 143)).cell? ⟨w.heap.size,0,none⟩=some (.int .i64 o) by go_simp);clear k1)
         go_ret;exact⟨jf HV.out.symm,(ja _ _).trans K1.out⟩
def Zy (l:TL) (s:PL):Bool:=l.all (Zo s)
theorem jhB (t:Int×ByteArray×ByteArray) (r:TL) (s:PL):Zy (t::r) s=(Zo s t&&Zy r s):=rfl
theorem jh3 (a a':Option Addr) (len cap len' cap':Nat) (l:TL) (s:PL) (w:World) (hr:jn jR w a len l) (hr':jn jy w a' len' s) :
 Calls Tryz.prog 192 #[.slice a len cap,.slice a' len' cap'] w fun e w'=>e=.returned (.bool (Zy l s))∧Kept w w':=by
 have hl:=hr.1;have hm:=hr.2.1;unfold maxLen at hm;rcases hr.form with h0 | ⟨b,off,rfl⟩
 · subst h0;have HE:=lH (show Zy l s=true by rw[List.eq_nil_of_length_eq_zero hl];rfl);clear hr hl hr';go_enter Tryz.func192,Tryz.ntmps192;go_wp2;refine wp_loop_rounds 1 ?_;rw[rounds_succ];go_wp2;go_ret;exact⟨jf HE.out.symm,Kept.refl _⟩
 · have HR:=lH hr;have HR':=lH hr';have HL:=lH hl;clear hr hl hr';go_enter Tryz.func192,Tryz.ntmps192;go_wp2;go_loopw [9] (fun i wr=>∃k:Nat,k≤len∧i=.int .i64 k∧Zy (l.drop k) s=Zy l s∧Kept w wr) (fun i _=>len-(intOf i).toNat)
   case atStart=>exact⟨0,Nat.zero_le _,rfl,rfl,Kept.refl _⟩
   case round =>
    obtain⟨k,hk,rfl,hrest,hK⟩:=hrel;by_cases hlt:k<len
    · obtain⟨o,x,y,hx,hd,hb,ho,hz,hz2,c1,c2,c3⟩:=(HR.out.kept hK).term hlt;have HK:=lH hK;have HT:=lH (hrest.symm.trans ((congrArg (fun z=>Zy z s) hd).trans (jhB _ _ _)));clear hK hrest hx hd;by_cases n:Zo s (o,x,y)=true
      · have N:=lH n;go_wp2_with (go_at_call 224;refine(jcY o x y a' len' cap' s _ ((HR'.out.kept HK.out).kept (ja _ _))).mono ?_;rintro e w1 ⟨rfl,k1⟩;have K1:=lH k1;clear k1)
        go_roundw
        case rel=>exact⟨k+1,by omega,by go_num,(HT.out.trans (by rw[N.out];exact Bool.true_and _)).symm,HK.out.trans ((ja _ _).trans K1.out)⟩
        case measure=>simp[intOf];omega
      · have n:Zo s (o,x,y)=false:=by simpa using n
        have N:=lH n;go_wp2_with (go_at_call 224;refine(jcY o x y a' len' cap' s _ ((HR'.out.kept HK.out).kept (ja _ _))).mono ?_;rintro e w1 ⟨rfl,k1⟩;have K1:=lH k1;clear k1)
        go_ret;exact⟨jf (HT.out.trans (by rw[N.out];exact Bool.false_and _)).symm,HK.out.trans ((ja _ _).trans K1.out)⟩
    · have HK:=lH hK;have HS:=lH (hrest.symm.trans (congrArg (fun z=>Zy z s) (zZ (by rw[HL.out];exact hlt))));clear hK hrest;go_wp2;go_ret;exact⟨jf (HS.out.trans rfl).symm,HK.out⟩
abbrev NT:=ByteArray×ByteArray×Bool
abbrev NL:=List NT
abbrev NV (x y:ByteArray) (b:Bool):Value:=.agg #[.string x,.string y,.bool b]
theorem jct (x y:ByteArray) (b:Bool) (u:Value) (h:u ∈ [Value.string x,Value.string y,Value.bool b]):u.oneCell'=true:=by
 have e:u=Value.string x∨u=Value.string y∨u=Value.bool b:=by simpa using h
 rcases e with e | e | e<;>rw[e]<;>rfl
def jz:Lay NT:={ m:=3,cs:=fun x=>[.string x.1,.string x.2.1,.bool x.2.2],fine:=fun x=>x.1.size≤maxLen∧x.2.1.size≤maxLen,len:=fun _=>rfl,one:=fun x=>jct x.1 x.2.1 x.2.2,pos:=by decide }
theorem jn.tri {w:World} {b off len:Nat} {l:NL} {k:Nat} (h:jn jz w (some ⟨b,off,none⟩) len l) (hk:k<len) :
 ∃(x y:ByteArray) (m:Bool),l[k]?=some (x,y,m)∧l.drop k=(x,y,m)::l.drop (k+1)∧b<w.heap.size∧x.size≤maxLen∧y.size≤maxLen ∧
  w.cell? ⟨b,off+k*3,none⟩=some (.string x)∧w.cell? ⟨b,off+k*3+1,none⟩=some (.string y)∧w.cell? ⟨b,off+k*3+2,none⟩=some (.bool m):=by
 obtain⟨⟨x,y,m⟩,h1,h2,h3,h4,h5⟩:=h.cells hk;exact⟨x,y,m,h1,h2,h3,h4.1,h4.2,h5 0 _ rfl,h5 1 _ rfl,h5 2 _ rfl⟩
def Ya (t z:NT):Bool:=eqS z.1 t.1&&eqS z.2.1 t.2.1
def Zk:NL→NL→Int
 | _,[]=>0
 | pre,x::t=>if (isName x.1&&isName x.2.1)=false then 3 else if pre.any (Ya x)=true then 6 else Zk (pre++[x]) t
def qd (l:NL):Int:=if 8<l.length then 4 else Zk [] l
theorem jc4 {pre:NL} {x:NT} {t:NL} (n:(isName x.1&&isName x.2.1)=false):Zk pre (x::t)=3:=by rw[Zk,if_pos n]
theorem jgQ {pre:NL} {x:NT} {t:NL} (n1:isName x.1=true) (n2:isName x.2.1=true) (b:pre.any (Ya x)=true):Zk pre (x::t)=6:=by
 rw[Zk,if_neg (by rw[n1,n2];decide),if_pos b]
theorem jiN {pre:NL} {x:NT} {t:NL} (n1:isName x.1=true) (n2:isName x.2.1=true) (b:pre.any (Ya x)=false):Zk pre (x::t)=Zk (pre++[x]) t:=by
 rw[Zk,if_neg (by rw[n1,n2];decide),if_neg (by rw[b];decide)]
def zD (s:ByteArray):Bool:=eqS s ByteArray.empty
def Jz (x:NT):Bool:=(zD x.1||isName x.1)&&(if x.2.2=true then zD x.2.1 else isName x.2.1)
def ZY (l:NL):Int:=if 8<l.length then 4 else if l.all Jz=true then 0 else 3
def JV (t z:NT):Bool:=(zD z.1||eqS z.1 t.1)&&(z.2.2||eqS z.2.1 t.2.1)
def XZ (l:NL) (t:NT):Bool:=l.any (JV t)
def zT (l:NL):NL→Option NT
 | []=>none
 | t::r=>if (t.2.2&&!XZ l t)=true then some t else zT l r
def softN (l:NL):NL→Nat
 | []=>0
 | t::r=>(if (!t.2.2&&!XZ l t)=true then 1 else 0)+softN l r
theorem ZN {s:ByteArray}:zD s=(s.toList==([]:List UInt8)):=by
 unfold zD eqS;rw[show ByteArray.empty.toList=([]:List UInt8) from by rw[Lib.toList_data];rfl]
theorem jc7 (v:Value) (w:World):Calls Tryz.prog 148 #[v,.int .i64 0] w fun e w'=>e=.returned v∧w=w':=by
 go_enter Tryz.func148,Tryz.ntmps148;go_wp2;go_ret;exact⟨rfl,rfl⟩
theorem jbE (v:Value) (x:Int) (w:World) (h:x≠0):Calls Tryz.prog 148 #[v,.int .i64 x] w fun e w'=>e=.panicked [zo x]∧w=w':=by
 have h3:(x != 0)=true:=by simpa using h
 clear h;go_enter Tryz.func148,Tryz.ntmps148;go_wp2;exact⟨rfl,rfl,rfl⟩
open Go.RowKit Go.Shelf
attribute [local go_sem] Oper.semAt_some
end Go.Proofs.YtibepooajeakfaaGreat
namespace Go.Proofs.YtibepooajeakfaaGreat
open Go.RowKit Go.Shelf
attribute [local go_sem] Oper.semAt_some
end Go.Proofs.YtibepooajeakfaaGreat
namespace Go.Proofs.YtibepooajeakfaaGreat
open Go.RowKit
theorem jeD {v:Value} {l:PL} {n x:ByteArray} {b:Bool} {w:World} (h:Reads jy w v l) (hx:Xq l n=x) (hb:ZZ l n=b) :
 Calls Tryz.prog 247 #[v,.string n] w (Say (.tuple #[.string x,.bool b]) w):=by
 obtain⟨a,cap,rfl,_,_,hr⟩:=h;exact(Y9 a _ cap l n w hr).mono fun e w' ⟨he,k⟩=>⟨by rw[he,hx,hb],k⟩
theorem jlS {v v':Value} {l:TL} {s:PL} {b:Bool} {w:World} (h:Reads jR w v l) (h':Reads jy w v' s) (hb:Zy l s=b) :
 Calls Tryz.prog 192 #[v,v'] w (Say (.bool b) w):=by
 obtain⟨a,cap,rfl,_,_,hr⟩:=h;obtain⟨a',cap',rfl,_,_,hr'⟩:=h';exact(jh3 a a' _ cap _ cap' l s w hr hr').mono fun e w' ⟨he,k⟩=>⟨by rw[he,hb],k⟩
def YD (x:ByteArray×ByteArray):Bool:=decide (x.1.size≤50)&&decide (x.2.size≤50)
def Yq (x:Int×ByteArray×ByteArray):Bool:=decide (x.2.1.size≤50)&&decide (x.2.2.size≤50)
def ZV (l:PL):Bool:=decide (l.length≤20)&&l.all YD
def Z0 (l:TL):Bool:=decide (l.length≤20)&&l.all Yq
theorem jcu (a:Option Addr) (len cap:Nat) (l:PL) (w:World) (hr:jn jy w a len l) :
 Calls Tryz.prog 109 #[.slice a len cap] w fun e w'=>e=.returned (.bool (ZV l))∧w=w':=by
 have hl:=hr.1;have hm:=hr.2.1;unfold maxLen at hm;by_cases h20:len≤20
 · have HV:=lH (show ZV l=l.all YD by unfold ZV;rw[decide_eq_true (by omega)];rfl);rcases hr.form with h0 | ⟨b,off,rfl⟩
   · subst h0;have HE:=lH (show ZV l=true by rw[HV.out,List.eq_nil_of_length_eq_zero hl];rfl);clear hr hl;go_enter Tryz.func109,Tryz.ntmps109;go_wp2;refine wp_loop_rounds 1 ?_;rw[rounds_succ];go_wp2;go_ret;exact⟨jf HE.out.symm,rfl⟩
   · have HR:=lH hr;have HL:=lH hl;clear hr hl;go_enter Tryz.func109,Tryz.ntmps109;go_wp2;go_loop [3] (fun i=>∃k:Nat,k≤len∧i=.int .i64 k∧(l.drop k).all YD=l.all YD) (fun i=>len-(intOf i).toNat)
     case atStart=>exact⟨0,Nat.zero_le _,rfl,rfl⟩
     case round =>
      obtain⟨k,hk,rfl,hrest⟩:=hrel;by_cases hlt:k<len
      · obtain⟨x,y,hx,hd,hb,hz,hz2,c1,c2⟩:=HR.out.pair hlt;have HT:=lH (hrest.symm.trans ((congrArg (fun z=>z.all YD) hd).trans (all_cons _ _ _)));clear hrest hx hd;unfold maxLen at hz hz2;by_cases e:x.size≤50
        · by_cases e2:y.size≤50
          · have E:=lH (show YD (x,y)=true by unfold YD;rw[decide_eq_true e,decide_eq_true e2];rfl);go_wp2;go_round
            case rel=>exact⟨k+1,by omega,by go_num,(HT.out.trans (by rw[E.out];exact Bool.true_and _)).symm⟩
            case measure=>simp[intOf];omega
          · have E:=lH (show YD (x,y)=false by unfold YD;rw[decide_eq_false e2];exact Bool.and_false _);have e2':50<y.size:=by omega
            clear e2;go_wp2;go_ret;exact⟨jf (HV.out.trans (HT.out.trans (by rw[E.out];exact Bool.false_and _))).symm,rfl⟩
        · have E:=lH (show YD (x,y)=false by unfold YD;rw[decide_eq_false e];exact Bool.false_and _);have e':50<x.size:=by omega
          clear e;go_wp2;go_ret;exact⟨jf (HV.out.trans (HT.out.trans (by rw[E.out];exact Bool.false_and _))).symm,rfl⟩
      · have HS:=lH ((HV.out.trans hrest.symm).trans (congrArg (fun z=>z.all YD) (zZ (by rw[HL.out];exact hlt))));clear hrest;go_wp2;go_ret;exact⟨jf (HS.out.trans rfl).symm,rfl⟩
 · have HV:=lH (show ZV l=false by unfold ZV;rw[decide_eq_false (by omega)];rfl);have h9:20<len:=by omega
   clear h20 hr hl;go_enter Tryz.func109,Tryz.ntmps109;go_wp2;go_ret;exact⟨jf HV.out.symm,rfl⟩
theorem jg9 (a:Option Addr) (len cap:Nat) (l:TL) (w:World) (hr:jn jR w a len l) :
 Calls Tryz.prog 107 #[.slice a len cap] w fun e w'=>e=.returned (.bool (Z0 l))∧w=w':=by
 have hl:=hr.1;have hm:=hr.2.1;unfold maxLen at hm;by_cases h20:len≤20
 · have HV:=lH (show Z0 l=l.all Yq by unfold Z0;rw[decide_eq_true (by omega)];rfl);rcases hr.form with h0 | ⟨b,off,rfl⟩
   · subst h0;have HE:=lH (show Z0 l=true by rw[HV.out,List.eq_nil_of_length_eq_zero hl];rfl);clear hr hl;go_enter Tryz.func107,Tryz.ntmps107;go_wp2;refine wp_loop_rounds 1 ?_;rw[rounds_succ];go_wp2;go_ret;exact⟨jf HE.out.symm,rfl⟩
   · have HR:=lH hr;have HL:=lH hl;clear hr hl;go_enter Tryz.func107,Tryz.ntmps107;go_wp2;go_loop [3] (fun i=>∃k:Nat,k≤len∧i=.int .i64 k∧(l.drop k).all Yq=l.all Yq) (fun i=>len-(intOf i).toNat)
     case atStart=>exact⟨0,Nat.zero_le _,rfl,rfl⟩
     case round =>
      obtain⟨k,hk,rfl,hrest⟩:=hrel;by_cases hlt:k<len
      · obtain⟨o,x,y,hx,hd,hb,ho,hz,hz2,c0,c1,c2⟩:=HR.out.term hlt;have HT:=lH (hrest.symm.trans ((congrArg (fun z=>z.all Yq) hd).trans (all_cons _ _ _)));clear hrest hx hd;unfold maxLen at hz hz2;by_cases e:x.size≤50
        · by_cases e2:y.size≤50
          · have E:=lH (show Yq (o,x,y)=true by unfold Yq;rw[decide_eq_true e,decide_eq_true e2];rfl);go_wp2;go_round
            case rel=>exact⟨k+1,by omega,by go_num,(HT.out.trans (by rw[E.out];exact Bool.true_and _)).symm⟩
            case measure=>simp[intOf];omega
          · have E:=lH (show Yq (o,x,y)=false by unfold Yq;rw[decide_eq_false e2];exact Bool.and_false _);have e2':50<y.size:=by omega
            clear e2;go_wp2;go_ret;exact⟨jf (HV.out.trans (HT.out.trans (by rw[E.out];exact Bool.false_and _))).symm,rfl⟩
        · have E:=lH (show Yq (o,x,y)=false by unfold Yq;rw[decide_eq_false e];exact Bool.false_and _);have e':50<x.size:=by omega
          clear e;go_wp2;go_ret;exact⟨jf (HV.out.trans (HT.out.trans (by rw[E.out];exact Bool.false_and _))).symm,rfl⟩
      · have HS:=lH ((HV.out.trans hrest.symm).trans (congrArg (fun z=>z.all Yq) (zZ (by rw[HL.out];exact hlt))));clear hrest;go_wp2;go_ret;exact⟨jf (HS.out.trans rfl).symm,rfl⟩
 · have HV:=lH (show Z0 l=false by unfold Z0;rw[decide_eq_false (by omega)];rfl);have h9:20<len:=by omega
   clear h20 hr hl;go_enter Tryz.func107,Tryz.ntmps107;go_wp2;go_ret;exact⟨jf HV.out.symm,rfl⟩
theorem jbM (a:Option Addr) (len cap:Nat) (l:PL) (w:World) (hr:jn jy w a len l) :
 Calls Tryz.prog 160 #[.slice a len cap] w fun e w'=>e=.returned (.int .i64 (YX l))∧Kept w w':=by
 have hl:=hr.1;have hm:=hr.2.1;unfold maxLen at hm;by_cases h8:len≤8
 · have HV:=lH (show YX l=Jm none l by unfold YX;rw[if_neg (by omega)]);rcases hr.form with h0 | ⟨b,off,rfl⟩
   · subst h0;have HE:=lH (show YX l=0 by rw[HV.out];rw[List.eq_nil_of_length_eq_zero hl];rfl);clear hr hl;go_enter Tryz.func160,Tryz.ntmps160;go_wp2;refine wp_loop_rounds 1 ?_;rw[rounds_succ];go_wp2;go_ret;exact⟨jc HE.out.symm,Kept.refl _⟩
   · have HR:=lH hr;have HL:=lH hl;clear hr hl;go_enter Tryz.func160,Tryz.ntmps160;go_wp2;go_loopw [3] (fun i wr=>∃k:Nat,k≤len∧i=.int .i64 k∧Jm (Y7 l k) (l.drop k)=Jm none l∧Kept w wr) (fun i _=>len-(intOf i).toNat)
     case atStart=>exact⟨0,Nat.zero_le _,rfl,rfl,Kept.refl _⟩
     case round =>
      obtain⟨k,hk,rfl,hrest,hK⟩:=hrel;by_cases hlt:k<len
      · obtain⟨x,y,hx,hd,hb,hz,hz2,c1,c2⟩:=(HR.out.kept hK).pair hlt;obtain⟨HX,HK,HT⟩:=lH3 hx hK (hrest.symm.trans (congrArg (Jm (Y7 l k)) hd));have HS:=lH (HV.out.trans HT.out);clear hK hrest hx hd;by_cases n1:isName x=true
        · by_cases n2:isName y=true
          · have N1:=lH n1;have N2:=lH n2;by_cases h0:k=0
            · have hd:decide (0<k)=false:=by subst h0;decide
              have HP:=lH (YI (l:=l) h0 x);clear h0;go_wp2_with (go_at_call 158;refine(jo _ _ (by assumption)).mono ?_;rintro e w' ⟨rfl,rfl⟩)
              go_quiet (fail)
              go_wp2;go_roundw
              case rel=>exact⟨k+1,by omega,by go_num,by rw[XO HX.out];exact(ZX N1.out N2.out HP.out).symm.trans HT.out.symm,HK.out.trans (Kept.drewN _ _)⟩
              case measure=>simp[intOf];omega
            · have hd:decide (0<k)=true:=by simp;omega
              have g1:0≤(k:Int)-1:=by omega
              have g2:(k:Int)-1<(len:Int):=by omega
              have g3:((k:Int)-1).toNat=k-1:=by omega
              obtain⟨px,py,hpx,_,_,_,_,d1,d2⟩:=(HR.out.kept HK.out).pair (show k-1<len by omega);have HP:=lH (YH (l:=l) h0 hpx x);clear hpx;by_cases n3:leS x px=true
              · have n3':(Op.bytesLess x.toList px.toList||x.toList==px.toList)=true:=n3;have N3:=lH n3;clear n3;go_wp2_with (go_at_call 158;refine(jo _ _ (by assumption)).mono ?_;rintro e w' ⟨rfl,rfl⟩)
                go_quiet (fail)
                go_wp2;go_ret;exact⟨jc (HS.out.trans (XL N1.out N2.out (HP.out.trans N3.out))).symm,HK.out.trans (Kept.drewN _ _)⟩
              · have n3:leS x px=false:=by simpa using n3
                have n3':(Op.bytesLess x.toList px.toList||x.toList==px.toList)=false:=n3;have N3:=lH n3;clear n3;go_wp2_with (go_at_call 158;refine(jo _ _ (by assumption)).mono ?_;rintro e w' ⟨rfl,rfl⟩)
                go_quiet (fail)
                go_wp2;go_roundw
                case rel=>exact⟨k+1,by omega,by go_num,by rw[XO HX.out];exact(ZX N1.out N2.out (HP.out.trans N3.out)).symm.trans HT.out.symm,HK.out.trans (Kept.drewN _ _)⟩
                case measure=>simp[intOf];omega
          · have n2:isName y=false:=by simpa using n2
            have N:=lH (show (isName x&&isName y)=false by rw[n2,Bool.and_false]);go_wp2_with (go_at_call 158;refine(jo _ _ (by assumption)).mono ?_;rintro e w' ⟨rfl,rfl⟩)
            go_ret;exact⟨jc (HS.out.trans (Xg N.out)).symm,HK.out⟩
        · have n1:isName x=false:=by simpa using n1
          have N:=lH (show (isName x&&isName y)=false by rw[n1,Bool.false_and]);go_wp2_with (go_at_call 158;refine(jo x _ hz).mono ?_;rintro e w' ⟨rfl,rfl⟩)
          go_ret;exact⟨jc (HS.out.trans (Xg N.out)).symm,HK.out⟩
      · have HK:=lH hK;have HS:=lH ((HV.out.trans hrest.symm).trans (congrArg (Jm (Y7 l k)) (zZ (by rw[HL.out];exact hlt))));clear hK hrest;go_wp2;go_ret;exact⟨jc (HS.out.trans rfl).symm,HK.out⟩
 · have HV:=lH (show YX l=4 by unfold YX;rw[if_pos (by omega)]);have h9:8<len:=by omega
   clear h8 hr hl;go_enter Tryz.func160,Tryz.ntmps160;go_wp2;go_ret;exact⟨jc HV.out.symm,Kept.refl _⟩
theorem jbO (a:Option Addr) (len cap:Nat) (l:TL) (w:World) (hr:jn jR w a len l) :
 Calls Tryz.prog 162 #[.slice a len cap] w fun e w'=>e=.returned (.int .i64 (Xa l))∧Kept w w':=by
 have hl:=hr.1;have hm:=hr.2.1;unfold maxLen at hm;by_cases h8:len≤8
 · have HV:=lH (show Xa l=Y0 l by unfold Xa;rw[if_neg (by omega)]);rcases hr.form with h0 | ⟨b,off,rfl⟩
   · subst h0;have HE:=lH (show Xa l=0 by rw[HV.out];rw[List.eq_nil_of_length_eq_zero hl];rfl);clear hr hl;go_enter Tryz.func162,Tryz.ntmps162;go_wp2;refine wp_loop_rounds 1 ?_;rw[rounds_succ];go_wp2;go_ret;exact⟨jc HE.out.symm,Kept.refl _⟩
   · have HR:=lH hr;have HL:=lH hl;clear hr hl;go_enter Tryz.func162,Tryz.ntmps162;go_wp2;go_loopw [3] (fun i wr=>∃k:Nat,k≤len∧i=.int .i64 k∧Y0 (l.drop k)=Y0 l∧Kept w wr) (fun i _=>len-(intOf i).toNat)
     case atStart=>exact⟨0,Nat.zero_le _,rfl,rfl,Kept.refl _⟩
     case round =>
      obtain⟨k,hk,rfl,hrest,hK⟩:=hrel;by_cases hlt:k<len
      · obtain⟨o,x,y,hx,hd,hb,ho,hz,hz2,c1,c2,c3⟩:=(HR.out.kept hK).term hlt;have HK:=lH hK;have HT:=lH (hrest.symm.trans ((congrArg Y0 hd).trans (jg0 _ _)));have HS:=lH (HV.out.trans HT.out);clear hK hrest hx hd;by_cases g1:o<1
        · have N:=lH (show YG (o,x,y)=1 by rw[Z7,if_neg (by omega),if_neg (by omega)]);go_wp2_with (go_at_call 158;refine(jo _ _ (by assumption)).mono ?_;rintro e w' ⟨rfl,rfl⟩)
          go_ret;exact⟨jc (HS.out.trans ((if_pos (by rw[N.out];decide)).trans N.out)).symm,HK.out.trans (ja _ _)⟩
        · by_cases g4:4<o
          · have g1':¬o<1:=g1;have N:=lH (show YG (o,x,y)=1 by rw[Z7,if_neg (by omega),if_neg (by omega)]);go_wp2_with (go_at_call 158;refine(jo _ _ (by assumption)).mono ?_;rintro e w' ⟨rfl,rfl⟩)
            go_ret;exact⟨jc (HS.out.trans ((if_pos (by rw[N.out];decide)).trans N.out)).symm,HK.out.trans (ja _ _)⟩
          · have hcase:(o=1∨o=2)∨(o=3∨o=4):=by omega
            clear g1 g4;rcases hcase with hcase | hcase
            · have hc:=hcase;by_cases n1:isName x=true
              · by_cases n2:isName y=true
                · have NN:=lH (show YG (o,x,y)=0 by rw[Z7,if_pos hc,if_pos (by rw[n1,n2];rfl)]);clear hc;rcases hcase with rfl | rfl
                  · have N:=lH (NN.out);go_wp2_with (go_at_call 158;refine(jo _ _ (by assumption)).mono ?_;rintro e w' ⟨rfl,rfl⟩)
                    go_roundw
                    case rel=>exact⟨k+1,by omega,by go_num,(HT.out.trans (if_neg (by rw[N.out];decide))).symm,HK.out.trans (ja _ _)⟩
                    case measure=>simp[intOf];omega
                  · have N:=lH (NN.out);go_wp2_with (go_at_call 158;refine(jo _ _ (by assumption)).mono ?_;rintro e w' ⟨rfl,rfl⟩)
                    go_roundw
                    case rel=>exact⟨k+1,by omega,by go_num,(HT.out.trans (if_neg (by rw[N.out];decide))).symm,HK.out.trans (ja _ _)⟩
                    case measure=>simp[intOf];omega
                · have n2:isName y=false:=by simpa using n2
                  have NN:=lH (show YG (o,x,y)=3 by rw[Z7,if_pos hc,if_neg (by rw[n2,Bool.and_false];decide)]);clear hc;rcases hcase with rfl | rfl
                  · have N:=lH (NN.out);go_wp2_with (go_at_call 158;refine(jo _ _ (by assumption)).mono ?_;rintro e w' ⟨rfl,rfl⟩)
                    go_ret;exact⟨jc (HS.out.trans ((if_pos (by rw[N.out];decide)).trans N.out)).symm,HK.out.trans (ja _ _)⟩
                  · have N:=lH (NN.out);go_wp2_with (go_at_call 158;refine(jo _ _ (by assumption)).mono ?_;rintro e w' ⟨rfl,rfl⟩)
                    go_ret;exact⟨jc (HS.out.trans ((if_pos (by rw[N.out];decide)).trans N.out)).symm,HK.out.trans (ja _ _)⟩
              · have n1:isName x=false:=by simpa using n1
                have NN:=lH (show YG (o,x,y)=3 by rw[Z7,if_pos hc,if_neg (by rw[n1,Bool.false_and];decide)]);clear hc;rcases hcase with rfl | rfl
                · have N:=lH (NN.out);go_wp2_with (go_at_call 158;refine(jo _ _ (by assumption)).mono ?_;rintro e w' ⟨rfl,rfl⟩)
                  go_ret;exact⟨jc (HS.out.trans ((if_pos (by rw[N.out];decide)).trans N.out)).symm,HK.out.trans (ja _ _)⟩
                · have N:=lH (NN.out);go_wp2_with (go_at_call 158;refine(jo _ _ (by assumption)).mono ?_;rintro e w' ⟨rfl,rfl⟩)
                  go_ret;exact⟨jc (HS.out.trans ((if_pos (by rw[N.out];decide)).trans N.out)).symm,HK.out.trans (ja _ _)⟩
            · have hc:=hcase;have hn:¬(o=1∨o=2):=by omega
              by_cases n1:isName x=true
              · by_cases n2:eqS y ByteArray.empty=true
                · have NN:=lH (show YG (o,x,y)=0 by rw[Z7,if_neg hn,if_pos hc,if_pos (by rw[n1,n2];rfl)]);have n2':(y.toList==([]:List UInt8))=true:=by unfold eqS at n2;simpa using n2
                  clear hc hn n2;rcases hcase with rfl | rfl
                  · have N:=lH (NN.out);go_wp2_with (go_at_call 158;refine(jo _ _ (by assumption)).mono ?_;rintro e w' ⟨rfl,rfl⟩)
                    go_roundw
                    case rel=>exact⟨k+1,by omega,by go_num,(HT.out.trans (if_neg (by rw[N.out];decide))).symm,HK.out.trans (ja _ _)⟩
                    case measure=>simp[intOf];omega
                  · have N:=lH (NN.out);go_wp2_with (go_at_call 158;refine(jo _ _ (by assumption)).mono ?_;rintro e w' ⟨rfl,rfl⟩)
                    go_roundw
                    case rel=>exact⟨k+1,by omega,by go_num,(HT.out.trans (if_neg (by rw[N.out];decide))).symm,HK.out.trans (ja _ _)⟩
                    case measure=>simp[intOf];omega
                · have n2:eqS y ByteArray.empty=false:=by simpa using n2
                  have NN:=lH (show YG (o,x,y)=3 by rw[Z7,if_neg hn,if_pos hc,if_neg (by rw[n2,Bool.and_false];decide)]);have n2':(y.toList==([]:List UInt8))=false:=by unfold eqS at n2;simpa using n2
                  clear hc hn n2;rcases hcase with rfl | rfl
                  · have N:=lH (NN.out);go_wp2_with (go_at_call 158;refine(jo _ _ (by assumption)).mono ?_;rintro e w' ⟨rfl,rfl⟩)
                    go_ret;exact⟨jc (HS.out.trans ((if_pos (by rw[N.out];decide)).trans N.out)).symm,HK.out.trans (ja _ _)⟩
                  · have N:=lH (NN.out);go_wp2_with (go_at_call 158;refine(jo _ _ (by assumption)).mono ?_;rintro e w' ⟨rfl,rfl⟩)
                    go_ret;exact⟨jc (HS.out.trans ((if_pos (by rw[N.out];decide)).trans N.out)).symm,HK.out.trans (ja _ _)⟩
              · have n1:isName x=false:=by simpa using n1
                have NN:=lH (show YG (o,x,y)=3 by rw[Z7,if_neg hn,if_pos hc,if_neg (by rw[n1,Bool.false_and];decide)]);clear hc hn;rcases hcase with rfl | rfl
                · have N:=lH (NN.out);go_wp2_with (go_at_call 158;refine(jo _ _ (by assumption)).mono ?_;rintro e w' ⟨rfl,rfl⟩)
                  go_ret;exact⟨jc (HS.out.trans ((if_pos (by rw[N.out];decide)).trans N.out)).symm,HK.out.trans (ja _ _)⟩
                · have N:=lH (NN.out);go_wp2_with (go_at_call 158;refine(jo _ _ (by assumption)).mono ?_;rintro e w' ⟨rfl,rfl⟩)
                  go_ret;exact⟨jc (HS.out.trans ((if_pos (by rw[N.out];decide)).trans N.out)).symm,HK.out.trans (ja _ _)⟩
      · have HK:=lH hK;have HS:=lH ((HV.out.trans hrest.symm).trans (congrArg Y0 (zZ (by rw[HL.out];exact hlt))));clear hK hrest;go_wp2;go_ret;exact⟨jc (HS.out.trans rfl).symm,HK.out⟩
 · have HV:=lH (show Xa l=4 by unfold Xa;rw[if_pos (by omega)]);have h9:8<len:=by omega
   clear h8 hr hl;go_enter Tryz.func162,Tryz.ntmps162;go_wp2;go_ret;exact⟨jc HV.out.symm,Kept.refl _⟩
theorem jkK:(Tryz.prog.info? 141).map (fun i=>(i.zero,i.size,i.bytes))=some (some (.agg #[.string ByteArray.empty,.string ByteArray.empty]),2,32):=by kernel_rfl
theorem jeV (a:Option Addr) (len cap:Nat) (l:PL) (w:World) (hr:jn jy w a len l) (hlen:len≤1000000) :
 Calls Tryz.prog 36 #[.slice a len cap] w (fun e w'=>∃x,e=.returned x∧Own jy 141 w' w.heap.size x l∧Kept w w'):=by
 have hl:=hr.1;obtain⟨i0,hi,hz0,hz1,hz2'⟩:=info_parts jkK;rcases hr.form with h0 | ⟨b,off,rfl⟩
 · subst h0;have hl0:l=[]:=List.eq_nil_of_length_eq_zero hl;subst hl0;clear hr hl hi hz0 hz1 hz2';go_enter Tryz.func36,Tryz.ntmps36;go_wp2;refine wp_loop_rounds 1 ?_;rw[rounds_succ];go_wp2;go_ret;exact⟨_,rfl,Own.nil _ _ _,Kept.refl _⟩
 · have HR:=lH hr;have HL:=lH hl;clear hr hl;go_enter Tryz.func36,Tryz.ntmps36;go_wp2;go_loopw [3,4] (fun v i wr=>∃k:Nat,k≤len∧i=.int .i64 k∧Own jy 141 wr w.heap.size v (l.take k)∧Below w.heap.size w wr) (fun _ i _=>len-(intOf i).toNat)
   case atStart=>exact⟨0,Nat.zero_le _,rfl,Own.nil _ _ _,Below.refl _ _⟩
   case round =>
    obtain⟨k,hk,rfl,ho,hB⟩:=hrel;obtain⟨HO,HB,HT⟩:=lH3 ho hB (show (l.take k).length=k by rw[List.length_take,HL.out];omega);have Vj:=lH (show wr.ownsRow w.heap.size 141 2 u3 k (jd jy (l.take k)) by have:=HO.out.1;rw[HT.out] at this;exact this);by_cases hlt:k<len
    · obtain⟨x,y,hx,hd,hb,hz,hz2,c1,c2⟩:=(HR.out.kept hB).pair hlt;have HX:=lH hx;have hbw:b<w.heap.size:=by obtain⟨z,_,_,h,_⟩:=HR.out.cells hlt;exact h
      have hbase:w.heap.size≤wr.heap.size:=hB.size;have VY:=lH (show u3.ownBlock≠some b by
       intro e;have:=(Vj.out.lt b e).1;omega)
      have VI:=lH (show w.heap.size≤(wr.alloc (.cells #[.string x,.string y] 141)).drew.heap.size by simp;omega);have UB:=lH (show Below w.heap.size w ((wr.alloc (.cells #[.string x,.string y] 141)).drew) from HB.out.trans (Below.mono ((ja wr _).trans (Kept.drewN _ 1)) hbase));have hk1:(k:Int)<(len:Int):=by omega
      have Ul:=lH (show jy.fine (x,y) from⟨hz,hz2⟩);clear ho hB hx hd hz hz2;go_wp2_with fail
      go_region_held3 (fun W=>W.cell? ⟨b,off+k*2,none⟩=some (.string x)∧W.cell? ⟨b,off+k*2+1,none⟩=some (.string y))
       (first
         | go_keep
         | (go_split_ands
            refine⟨?_,?_⟩
            · (refine(hgrow.cell_far ⟨b,off+k*2,none⟩ (by simp;omega) (Ne.symm VY.out)).trans ?_;assumption)
            · (refine(hgrow.cell_far ⟨b,off+k*2+1,none⟩ (by simp;omega) (Ne.symm VY.out)).trans ?_;assumption)))
       ((refine step_append_lies _ (by rfl) _ _ _ (by rfl) w.heap.size 141 i0 _ 2 32 Tryz.underlying38 hi hz0 hz1 hz2' rfl (by decide) u3 k (jd jy (l.take k)) (by rfl) ((Vj.out.alloc _).drew)
          ⟨wr.heap.size,0,none⟩ 1 1 [.string x,.string y] (by rfl) (by rfl) (World.news_of_block (cs:=#[.string x,.string y]) (t:=141) (fr:=(0,0)) (heap_alloc_new wr _)) (je5 x y)
          (by decide) (by unfold maxLen;omega) (by omega) (by simp;omega) (wr.heap.size+1) (by simp) ?_;intro gg cap1 w1 hown1 hgrow hat hlt1))
      all_goals
       go_wp2;go_roundw
       case rel=>exact⟨k+1,by omega,by go_num,by rw[zF HX.out];exact Own.snoc hown1 (by rw[HT.out]) HO.out.2 Ul.out,UB.out.grown hgrow VI.out (fun j hj=>(Vj.out.lt j hj).1)⟩
       case measure=>simp[intOf];omega
    · have HK:=lH (show l.take k=l by rw[List.take_of_length_le (by rw[HL.out];omega)]);clear ho hB;go_wp2;go_ret;exact⟨_,rfl,by have h:=HO.out;rw[HK.out] at h;exact h,HB.out⟩
theorem jkV:(Tryz.prog.info? 144).map (fun i=>(i.zero,i.size,i.bytes))=some (some (.agg #[.int .i64 0,.string ByteArray.empty,.string ByteArray.empty]),3,40):=by kernel_rfl
theorem jjG (a:Option Addr) (len cap:Nat) (l:TL) (w:World) (hr:jn jR w a len l) (hlen:len≤1000000) :
 Calls Tryz.prog 37 #[.slice a len cap] w (fun e w'=>∃x,e=.returned x∧Own jR 144 w' w.heap.size x l∧Kept w w'):=by
 have hl:=hr.1;obtain⟨i0,hi,hz0,hz1,hz2'⟩:=info_parts jkV;rcases hr.form with h0 | ⟨b,off,rfl⟩
 · subst h0;have hl0:l=[]:=List.eq_nil_of_length_eq_zero hl;subst hl0;clear hr hl hi hz0 hz1 hz2';go_enter Tryz.func37,Tryz.ntmps37;go_wp2;refine wp_loop_rounds 1 ?_;rw[rounds_succ];go_wp2;go_ret;exact⟨_,rfl,Own.nil _ _ _,Kept.refl _⟩
 · have HR:=lH hr;have HL:=lH hl;clear hr hl;go_enter Tryz.func37,Tryz.ntmps37;go_wp2;go_loopw [3,4] (fun v i wr=>∃k:Nat,k≤len∧i=.int .i64 k∧Own jR 144 wr w.heap.size v (l.take k)∧Below w.heap.size w wr) (fun _ i _=>len-(intOf i).toNat)
   case atStart=>exact⟨0,Nat.zero_le _,rfl,Own.nil _ _ _,Below.refl _ _⟩
   case round =>
    obtain⟨k,hk,rfl,ho,hB⟩:=hrel;obtain⟨HO,HB,HT⟩:=lH3 ho hB (show (l.take k).length=k by rw[List.length_take,HL.out];omega);have Vj:=lH (show wr.ownsRow w.heap.size 144 3 u3 k (jd jR (l.take k)) by have:=HO.out.1;rw[HT.out] at this;exact this);by_cases hlt:k<len
    · obtain⟨o,x,y,hx,hd,hb,ho9,hz,hz2,c0,c1,c2⟩:=(HR.out.kept hB).term hlt;have HX:=lH hx;have hbw:b<w.heap.size:=by obtain⟨z,_,_,h,_⟩:=HR.out.cells hlt;exact h
      have hbase:w.heap.size≤wr.heap.size:=hB.size;have VY:=lH (show u3.ownBlock≠some b by
       intro e;have:=(Vj.out.lt b e).1;omega)
      have VI:=lH (show w.heap.size≤(wr.alloc (.cells #[.int .i64 o,.string x,.string y] 144)).drew.heap.size by simp;omega);have UB:=lH (show Below w.heap.size w ((wr.alloc (.cells #[.int .i64 o,.string x,.string y] 144)).drew) from HB.out.trans (Below.mono ((ja wr _).trans (Kept.drewN _ 1)) hbase));have hk1:(k:Int)<(len:Int):=by omega
      have Ul:=lH (show jR.fine (o,x,y) from⟨ho9,hz,hz2⟩);clear ho hB hx hd hz hz2;go_wp2_with fail
      go_region_held3 (fun W=>W.cell? ⟨b,off+k*3,none⟩=some (.int .i64 o)∧W.cell? ⟨b,off+k*3+1,none⟩=some (.string x)∧W.cell? ⟨b,off+k*3+2,none⟩=some (.string y))
       (first
         | go_keep
         | (go_split_ands
            refine⟨?_,?_,?_⟩
            · (refine(hgrow.cell_far ⟨b,off+k*3,none⟩ (by simp;omega) (Ne.symm VY.out)).trans ?_;assumption)
            · (refine(hgrow.cell_far ⟨b,off+k*3+1,none⟩ (by simp;omega) (Ne.symm VY.out)).trans ?_;assumption)
            · (refine(hgrow.cell_far ⟨b,off+k*3+2,none⟩ (by simp;omega) (Ne.symm VY.out)).trans ?_;assumption)))
       ((refine step_append_lies _ (by rfl) _ _ _ (by rfl) w.heap.size 144 i0 _ 3 40 Tryz.underlying39 hi hz0 hz1 hz2' rfl (by decide) u3 k (jd jR (l.take k)) (by rfl) ((Vj.out.alloc _).drew)
          ⟨wr.heap.size,0,none⟩ 1 1 [.int .i64 o,.string x,.string y] (by rfl) (by rfl) (World.news_of_block (cs:=#[.int .i64 o,.string x,.string y]) (t:=144) (fr:=(0,0)) (heap_alloc_new wr _)) (jgy o x y)
          (by decide) (by unfold maxLen;omega) (by omega) (by simp;omega) (wr.heap.size+1) (by simp) ?_;intro gg cap1 w1 hown1 hgrow hat hlt1))
      all_goals
       go_wp2;go_roundw
       case rel=>exact⟨k+1,by omega,by go_num,by rw[zF HX.out];exact Own.snoc hown1 (by rw[HT.out]) HO.out.2 Ul.out,UB.out.grown hgrow VI.out (fun j hj=>(Vj.out.lt j hj).1)⟩
       case measure=>simp[intOf];omega
    · have HK:=lH (show l.take k=l by rw[List.take_of_length_le (by rw[HL.out];omega)]);clear ho hB;go_wp2;go_ret;exact⟨_,rfl,by have h:=HO.out;rw[HK.out] at h;exact h,HB.out⟩
theorem jeO {v:Value} {l:PL} {w:World} (h:Reads jy w v l):Calls Tryz.prog 109 #[v] w fun e w'=>e=.returned (.bool (ZV l))∧w=w':=by
 obtain⟨a,cap,rfl,_,_,hr⟩:=h;exact jcu a _ cap l w hr
theorem jcJ {v:Value} {l:TL} {w:World} (h:Reads jR w v l):Calls Tryz.prog 107 #[v] w fun e w'=>e=.returned (.bool (Z0 l))∧w=w':=by
 obtain⟨a,cap,rfl,_,_,hr⟩:=h;exact jg9 a _ cap l w hr
theorem JZ {v:Value} {l:PL} {c:Int} {w:World} (h:Reads jy w v l) (hc:YX l=c):Calls Tryz.prog 160 #[v] w (Say (.int .i64 c) w):=by
 obtain⟨a,cap,rfl,_,_,hr⟩:=h;exact(jbM a _ cap l w hr).mono fun e w' ⟨he,k⟩=>⟨by rw[he,hc],k⟩
theorem jas {v:Value} {l:TL} {c:Int} {w:World} (h:Reads jR w v l) (hc:Xa l=c):Calls Tryz.prog 162 #[v] w (Say (.int .i64 c) w):=by
 obtain⟨a,cap,rfl,_,_,hr⟩:=h;exact(jbO a _ cap l w hr).mono fun e w' ⟨he,k⟩=>⟨by rw[he,hc],k⟩
open Go.RowKit Go.Sort
def Grw (w w':World):Prop:=∃q os,w'=grow (w.drewN q) os
theorem Grw.refl (w:World):Grw w w:=⟨0,#[],by rw[grow_empty];rfl⟩
theorem Grw.grown {w W:World} (h:Grw w W) (n:Nat) (os:Array Obj):Grw w (grow (W.drewN n) os):=by
 obtain⟨q,os0,rfl⟩:=h;exact⟨q+n,os0++os,by show grow (grow ((w.drewN q).drewN n) os0) os=_;rw[grow_grow,World.drewN_drewN]⟩
theorem Grw.trans {a b c:World} (h:Grw a b) (k:Grw b c):Grw a c:=by
 obtain⟨q,os,rfl⟩:=k;exact h.grown q os
theorem Grw.alloc (w:World) (o:Obj):Grw w (w.alloc o):=⟨0,#[o],alloc_eq_grow _ _⟩
theorem Grw.drewN (w:World) (n:Nat):Grw w (w.drewN n):=⟨n,#[],by rw[grow_empty]⟩
theorem ji6 (w:World) (n:Nat) (os:Array Obj):Kept w (grow (w.drewN n) os):=Go.Lib.below_grow w.heap.size w (Nat.le_refl _) n os
theorem Grw.kept {w w':World} (h:Grw w w'):Kept w w':=by
 obtain⟨q,os,rfl⟩:=h;exact ji6 w q os
def Z9 (w:World) (c:Nat) (t:NT):Prop:=w.cell? ⟨c,0,none⟩=some (.string t.1)∧w.cell? ⟨c,1,none⟩=some (.string t.2.1)∧w.cell? ⟨c,2,none⟩=some (.bool t.2.2)
theorem Z9.kept {w w':World} {c:Nat} {t:NT} (h:Z9 w c t) (k:Kept w w'):Z9 w' c t:=⟨cell_later k h.1,cell_later k h.2.1,cell_later k h.2.2⟩
theorem Z9.new (w:World) (x y:ByteArray) (m:Bool) (T:TypeId):Z9 (w.alloc (.cells #[.string x,.string y,.bool m] T)) w.heap.size (x,y,m):=by
 have hh:=w.alloc_heap_new (.cells #[.string x,.string y,.bool m] T);exact⟨by rw[Lib.cell_of_heap hh];rfl,by rw[Lib.cell_of_heap hh];rfl,by rw[Lib.cell_of_heap hh];rfl⟩
theorem jkT (t1 t2:ByteArray) (t3:Bool) (x y:ByteArray) (m:Bool) (w:World) :
 Calls Tryz.prog 250 #[NV x y m,NV t1 t2 t3] w fun e w'=>e=.returned (.bool (JV (t1,t2,t3) (x,y,m)))∧Grw w w':=by
 obtain⟨q0,hq0⟩:=eX ((x.toList==([]:List UInt8)))
 obtain⟨q1,hq1⟩:=eX ((x.toList==t1.toList))
 obtain⟨q2,hq2⟩:=eX ((y.toList==t2.toList))
 have HV:=lH (show JV (t1,t2,t3) (x,y,m)=((q0||q1)&&(m||q2)) by unfold JV;rw[ZN,hq0];unfold eqS;rw[hq1,hq2])
 cases q0<;>cases q1<;>cases m<;>cases q2 <;>
 (go_enter Tryz.func250,Tryz.ntmps250
  go_wp2;go_ret;exact⟨jf HV.out.symm,(Grw.alloc _ _).trans (Grw.alloc _ _)⟩)
theorem jb2 (c:Nat) (t:NT) (x y:ByteArray) (m:Bool) (w:World) (h:Z9 w c t) :
 Calls Tryz.prog 249 #[NV x y m,.pointer (some ⟨c,0,none⟩)] w fun e w'=>e=.returned (.bool (JV t (x,y,m)))∧Grw w w':=by
 obtain⟨t1,t2,t3⟩:=t;obtain⟨h1,h2,h3⟩:=h;dsimp only at h1 h2 h3;have g1:=cell_later (ja w (.cells #[.string x,.string y,.bool m] 146)) h1;have g2:=cell_later (ja w (.cells #[.string x,.string y,.bool m] 146)) h2;have g3:=cell_later (ja w (.cells #[.string x,.string y,.bool m] 146)) h3;go_enter Tryz.func249,Tryz.ntmps249;go_wp2_with (go_at_call 250;refine(jkT t1 t2 t3 x y m _).mono ?_;rintro e w1 ⟨rfl,k1⟩;have K1:=lH k1;clear k1)
 go_ret;exact⟨rfl,(Grw.alloc _ _).trans K1.out⟩
theorem jgY (a:Option Addr) (len cap:Nat) (l:NL) (c:Nat) (t:NT) (w:World) (hr:jn jz w a len l) (ht:Z9 w c t) :
 Calls Tryz.prog 268 #[.slice a len cap,.func (.func 249) #[] #[.pointer (some ⟨c,0,none⟩)]] w fun e w'=>∃i:Int,e=.returned (.int .i64 i)∧decide (0≤i)=l.any (JV t)∧Grw w w':=by
 have hl:=hr.1;have hm:=hr.2.1;unfold maxLen at hm;rcases hr.form with h0 | ⟨b,off,rfl⟩
 · subst h0;have HE:=lH (show l.any (JV t)=false by rw[List.eq_nil_of_length_eq_zero hl];rfl);clear hr hl ht;go_enter Tryz.func268,Tryz.ntmps268;go_wp2;refine wp_loop_rounds 1 ?_;rw[rounds_succ];go_wp2;go_ret;exact⟨-1,rfl,HE.out.symm,Grw.refl _⟩
 · obtain⟨HR,HL,HT⟩:=lH3 hr hl ht;clear hr hl ht;go_enter Tryz.func268,Tryz.ntmps268;go_wp2;go_loopw [8] (fun i wr=>∃k:Nat,k≤len∧i=.int .i64 k∧(l.drop k).any (JV t)=l.any (JV t)∧Grw w wr) (fun i _=>len-(intOf i).toNat)
   case atStart=>exact⟨0,Nat.zero_le _,rfl,rfl,Grw.refl _⟩
   case round =>
    obtain⟨k,hk,rfl,hrest,hG⟩:=hrel;have hK:=hG.kept;have HG:=lH hG;by_cases hlt:k<len
    · obtain⟨x,y,m,hx,hd,hb,hz,hz2,c1,c2,c3⟩:=(HR.out.kept hK).tri hlt;have HK:=lH hK;have HS:=lH (hrest.symm.trans ((congrArg (fun z=>z.any (JV t)) hd).trans (List.any_cons)));obtain⟨q,hq⟩:=eX (JV t (x,y,m))
      rw[hq] at HS;have HQ:=lH hq;have HC:=lH (HT.out.kept hK);clear hK hrest hx hd hG hq
      cases q with
      | true =>
       go_wp2_with (go_at_call 249;refine(jb2 c t x y m _ HC.out).mono ?_;rw[HQ.out];rintro e w1 ⟨rfl,k1⟩;have K1:=lH k1;clear k1)
       go_ret;exact⟨(k:Int),rfl,by rw[HS.out];simp,HG.out.trans K1.out⟩
      | false =>
       go_wp2_with (go_at_call 249;refine(jb2 c t x y m _ HC.out).mono ?_;rw[HQ.out];rintro e w1 ⟨rfl,k1⟩;have K1:=lH k1;clear k1)
       go_roundw
       case rel=>exact⟨k+1,by omega,by go_num,(HS.out.trans (Bool.false_or _)).symm,HG.out.trans K1.out⟩
       case measure=>simp[intOf];omega
    · have HS:=lH (hrest.symm.trans (congrArg (fun z=>z.any (JV t)) (zZ (by rw[HL.out];exact hlt))));clear hK hrest hG;go_wp2;go_ret;exact⟨-1,rfl,by rw[HS.out];rfl,HG.out⟩
theorem jdK (a:Option Addr) (len cap:Nat) (l:NL) (c:Nat) (t:NT) (w:World) (hr:jn jz w a len l) (ht:Z9 w c t) :
 Calls Tryz.prog 248 #[.slice a len cap,.func (.func 249) #[] #[.pointer (some ⟨c,0,none⟩)]] w fun e w'=>e=.returned (.bool (l.any (JV t)))∧Grw w w':=by
 have HI:=lH (jgY a len cap l c t w hr ht);clear hr ht;go_enter Tryz.func248,Tryz.ntmps248;go_wp2_with fail
 refine HI.out.mono ?_;rintro e w1 ⟨i,rfl,hi,k1⟩;have K1:=lH k1;have HB:=lH hi;clear hi k1;go_wp2;go_ret;exact⟨jf HB.out,K1.out⟩
theorem bears_any (a:Option Addr) (len cap:Nat) (l:NL) (t1 t2:ByteArray) (t3:Bool) (w:World) (hr:jn jz w a len l) :
 Calls Tryz.prog 225 #[.slice a len cap,NV t1 t2 t3] w fun e w'=>e=.returned (.bool (l.any (JV (t1,t2,t3))))∧Grw w w':=by
 have hmf:=hmfL (P:=Tryz.prog);have HI:=lH (jdK a len cap l w.heap.size (t1,t2,t3) (w.alloc (.cells #[.string t1,.string t2,.bool t3] 172)) (hr.kept (ja _ _)) (Z9.new w t1 t2 t3 _));clear hr;go_enter Tryz.func225,Tryz.ntmps225;go_wp2_with fail
 refine HI.out.mono ?_;rintro e w1 ⟨rfl,k1⟩;have K1:=lH k1;clear k1;go_wp2;go_ret;exact⟨rfl,(Grw.alloc _ _).trans K1.out⟩
theorem jjq {x:NT} {t:NL}:(x::t).all Jz=(Jz x&&t.all Jz):=rfl
open Go.RowKit Go.Shelf
attribute [local go_sem] Oper.semAt_some
end Go.Proofs.YtibepooajeakfaaGreat
namespace Go.Proofs.YtibepooajeakfaaGreat
open Go.RowKit Go.Shelf
attribute [local go_sem] Oper.semAt_some
end Go.Proofs.YtibepooajeakfaaGreat
namespace Go.Proofs.YtibepooajeakfaaGreat
open Go.RowKit Go.Sort
theorem jhp {l:NL} {t:NT} {r:NL}:zT l (t::r)=if (t.2.2&&!XZ l t)=true then some t else zT l r:=rfl
theorem jjy {l:NL} {t:NT} {r:NL}:softN l (t::r)=(if (!t.2.2&&!XZ l t)=true then 1 else 0)+softN l r:=rfl
theorem jjO (w:World) (x y:ByteArray) (m:Bool) (T:TypeId):(w.alloc (.cells #[.string x,.string y,.bool m] T)).frozen? ⟨w.heap.size,0,none⟩=false∧(w.alloc (.cells #[.string x,.string y,.bool m] T)).frozen? ⟨w.heap.size,1,none⟩=false∧(w.alloc (.cells #[.string x,.string y,.bool m] T)).frozen? ⟨w.heap.size,2,none⟩=false:=by
 refine⟨?_,?_,?_⟩<;>go_simp
theorem ZD {w w':World} {c i:Nat} (k:Kept w w') (hc:c<w.heap.size) (h:w.frozen? ⟨c,i,none⟩=false):w'.frozen? ⟨c,i,none⟩=false:=(k.frozen (p:=⟨c,i,none⟩) hc).trans h
theorem jdd (w:World) (c:Nat) (u0 u1 u2:Value) {o0 o1 o2:Value} (h0:w.cell? ⟨c,0,none⟩=some o0) (h1:w.cell? ⟨c,1,none⟩=some o1) (h2:w.cell? ⟨c,2,none⟩=some o2) :
 (w.setCell ⟨c,0,none⟩ u0).cell? ⟨c,0,none⟩=some u0∧((w.setCell ⟨c,0,none⟩ u0).setCell ⟨c,1,none⟩ u1).cell? ⟨c,1,none⟩=some u1∧(((w.setCell ⟨c,0,none⟩ u0).setCell ⟨c,1,none⟩ u1).setCell ⟨c,2,none⟩ u2).cell? ⟨c,2,none⟩=some u2:=by
 refine⟨World.cell?_setCell_same' _ _ _ (by rw[h0];rfl),World.cell?_setCell_same' _ _ _ ?_,World.cell?_setCell_same' _ _ _ ?_⟩
 · rw[World.cell?_setCell_other _ _ _ _ (by intro e;injection e with e1 e2;cases e2),h1];rfl
 · rw[World.cell?_setCell_other _ _ _ _ (by intro e;injection e with e1 e2;cases e2),World.cell?_setCell_other _ _ _ _ (by intro e;injection e with e1 e2;cases e2),h2];rfl
def wT (o:Option NT):NT:=o.getD (ByteArray.empty,ByteArray.empty,false)
theorem jje (a a':Option Addr) (len cap len' cap':Nat) (l t:NL) (w:World) (hr:jn jz w a len l) (hr':jn jz w a' len' t) :
 Calls Tryz.prog 193 #[.slice a len cap,.slice a' len' cap'] w fun e w'=>e=.returned (.tuple #[NV (wT (zT l t)).1 (wT (zT l t)).2.1 (wT (zT l t)).2.2,.bool (zT l t).isSome])∧Kept w w':=by
 have hl:=hr'.1;have hm:=hr'.2.1;unfold maxLen at hm;rcases hr'.form with h0 | ⟨b,off,rfl⟩
 · subst h0;have HE:=lH (show zT l t=none by rw[List.eq_nil_of_length_eq_zero hl];rfl);rw[HE.out];clear hr hr' hl;go_enter Tryz.func193,Tryz.ntmps193;go_wp2;refine wp_loop_rounds 1 ?_;rw[rounds_succ];go_wp2;(try simp only[Exit.inBlock,Exit.then])
   refine bodyPost_ret (v:=.tuple #[NV ⟨#[]⟩ ⟨#[]⟩ false,.bool false]) (by simp[results,Tryz.results193,go_sem]) rfl ?_;exact⟨rfl,ja _ _⟩
 · have HR:=lH hr;have HR':=lH hr';have HL:=lH hl;clear hr hr' hl;go_enter Tryz.func193,Tryz.ntmps193;go_wp2;go_loopw [10] (fun i wr=>∃k:Nat,k≤len'∧i=.int .i64 k∧zT l (t.drop k)=zT l t∧Kept (w.alloc (.cells #[.string ⟨#[]⟩,.string ⟨#[]⟩,.bool false] 172)) wr) (fun i _=>len'-(intOf i).toNat)
   case atStart=>exact⟨0,Nat.zero_le _,rfl,rfl,Kept.refl _⟩
   case round =>
    obtain⟨k,hk,rfl,hrest,hK⟩:=hrel;have hKw:Kept w wr:=(ja w _).trans hK;have tn:=(Z9.new w ⟨#[]⟩ ⟨#[]⟩ false 172).kept hK;have d1:=tn.1;have d2:=tn.2.1;have d3:=tn.2.2;dsimp only at d1 d2 d3;have hbs:w.heap.size<wr.heap.size:=by have:=hK.size;simp at this;omega
    have fr:=jjO w ⟨#[]⟩ ⟨#[]⟩ false 172;have z1:=ZD hK (by simp) fr.1;have z2:=ZD hK (by simp) fr.2.1;have z3:=ZD hK (by simp) fr.2.2;clear tn fr;by_cases hlt:k<len'
    · obtain⟨x,y,m,hx,hd,hb,hz,hz2,c1,c2,c3⟩:=(HR'.out.kept hKw).tri hlt;have HK:=lH hKw;obtain⟨q,hq⟩:=eX (XZ l (x,y,m))
      have HS:=lH (hrest.symm.trans ((congrArg (zT l) hd).trans (jhp.trans (by rw[hq]))));have HC:=lH (fun W (h:Kept w W)=>bears_any a len cap l x y m W (HR.out.kept h));rw[show l.any (JV (x,y,m))=q from hq] at HC;have UC:=lH hK;clear hK hrest hx hd hq hKw
      cases m with
      | false =>
       go_wp2_with fail
       go_roundw
       case rel=>exact⟨k+1,by omega,by go_num,HS.out.symm,UC.out.trans (ja _ _)⟩
       case measure=>simp[intOf];omega
      | true =>
       cases q with
       | true =>
        go_wp2_with (go_at_call 225;refine(HC.out _ (HK.out.trans (ja _ _))).mono ?_;rintro e w1 ⟨rfl,k1⟩;have K1:=lH k1.kept;clear k1)
        go_roundw
        case rel=>exact⟨k+1,by omega,by go_num,HS.out.symm,UC.out.trans ((ja _ _).trans K1.out)⟩
        case measure=>simp[intOf];omega
       | false =>
        have HW:=lH (show zT l t=some (x,y,true) from HS.out);have e1:=cell_later (ja wr (.cells #[.string x,.string y,.bool true] 172)) d1;have e2:=cell_later (ja wr (.cells #[.string x,.string y,.bool true] 172)) d2;have e3:=cell_later (ja wr (.cells #[.string x,.string y,.bool true] 172)) d3;have tn:=Z9.new wr x y true 172;go_wp2_with (go_at_call 225;refine(HC.out _ (HK.out.trans (ja _ _))).mono ?_;rintro e w1 ⟨rfl,k1⟩;have K1:=lH k1.kept;have y1:=ZD (Kept.trans (ja wr _) K1.out) hbs z1;have y2:=ZD (Kept.trans (ja wr _) K1.out) hbs z2;have y3:=ZD (Kept.trans (ja wr _) K1.out) hbs z3;have f1:=cell_later K1.out e1;have f2:=cell_later K1.out e2;have f3:=cell_later K1.out e3;have g1:=cell_later K1.out tn.1;have g2:=cell_later K1.out tn.2.1;have g3:=cell_later K1.out tn.2.2;dsimp only at g1 g2 g3;clear k1)
        (try simp only[Exit.inBlock,Exit.then])
        have s3:=jdd w1 w.heap.size (.string x) (.string y) (.bool true) f1 f2 f3;refine bodyPost_ret (v:=.tuple #[NV x y true,.bool true]) (by simp[results,Tryz.results193,go_sem,s3.1,s3.2.1,s3.2.2]) rfl ?_;exact⟨by rw[HW.out];rfl,Ju (Ju (Ju (HK.out.trans ((ja _ _).trans K1.out)) (Nat.le_refl _) _) (Nat.le_refl _) _) (Nat.le_refl _) _⟩
    · have UC:=lH hKw;have HS:=lH (show zT l t=none from(hrest.symm.trans (congrArg (zT l) (zZ (by rw[HL.out];exact hlt)))));clear hK hrest hKw;go_wp2;(try simp only[Exit.inBlock,Exit.then])
      have s3:=jdd wr w.heap.size (.string ⟨#[]⟩) (.string ⟨#[]⟩) (.bool false) d1 d2 d3;refine bodyPost_ret (v:=.tuple #[NV ⟨#[]⟩ ⟨#[]⟩ false,.bool false]) (by simp[results,Tryz.results193,go_sem,s3.1,s3.2.1,s3.2.2]) rfl ?_;exact⟨by rw[HS.out];rfl,Ju (Ju (Ju UC.out (Nat.le_refl _) _) (Nat.le_refl _) _) (Nat.le_refl _) _⟩
theorem jkI (a a':Option Addr) (len cap len' cap':Nat) (l t:NL) (w:World) (hr:jn jz w a len l) (hr':jn jz w a' len' t) :
 Calls Tryz.prog 235 #[.slice a len cap,.slice a' len' cap'] w fun e w'=>e=.returned (.int .i64 (softN l t))∧Kept w w':=by
 have hl:=hr'.1;have hm:=hr'.2.1;unfold maxLen at hm;rcases hr'.form with h0 | ⟨b,off,rfl⟩
 · subst h0;have HE:=lH (show (softN l t:Int)=0 by rw[List.eq_nil_of_length_eq_zero hl];rfl);rw[HE.out];clear hr hr' hl;go_enter Tryz.func235,Tryz.ntmps235;go_wp2;refine wp_loop_rounds 1 ?_;rw[rounds_succ];go_wp2;go_ret;exact⟨rfl,Kept.refl _⟩
 · have HR:=lH hr;have HR':=lH hr';have HL:=lH hl;clear hr hr' hl;go_enter Tryz.func235,Tryz.ntmps235;go_wp2;go_loopw [5,10] (fun v i wr=>∃k n:Nat,k≤len'∧i=.int .i64 k∧v=.int .i64 n∧n≤k∧n+softN l (t.drop k)=softN l t∧Kept w wr) (fun _ i _=>len'-(intOf i).toNat)
   case atStart=>exact⟨0,0,Nat.zero_le _,rfl,rfl,Nat.le_refl _,by simp,Kept.refl _⟩
   case round =>
    obtain⟨k,n,hk,rfl,rfl,hn,hrest,hK⟩:=hrel;by_cases hlt:k<len'
    · obtain⟨x,y,m,hx,hd,hb,hz,hz2,c1,c2,c3⟩:=(HR'.out.kept hK).tri hlt;have HK:=lH hK;obtain⟨q,hq⟩:=eX (XZ l (x,y,m))
      have HS:=lH (show n+((if (!m&&!q)=true then 1 else 0)+softN l (t.drop (k+1)))=softN l t by rw[←hrest,hd,jjy,hq]);have HC:=lH (fun W (h:Kept w W)=>bears_any a len cap l x y m W (HR.out.kept h));rw[show l.any (JV (x,y,m))=q from hq] at HC;clear hK hrest hx hd hq
      cases m with
      | true =>
       go_wp2_with fail
       go_roundw
       case rel=>exact⟨k+1,n,by omega,by go_num,rfl,by omega,by have:=HS.out;simpa using this,HK.out.trans (ja _ _)⟩
       case measure=>simp[intOf];omega
      | false =>
       cases q with
       | true =>
        go_wp2_with (go_at_call 225;refine(HC.out _ (HK.out.trans (ja _ _))).mono ?_;rintro e w1 ⟨rfl,k1⟩;have K1:=lH k1.kept;clear k1)
        go_roundw
        case rel=>exact⟨k+1,n,by omega,by go_num,rfl,by omega,by have:=HS.out;simpa using this,HK.out.trans ((ja _ _).trans K1.out)⟩
        case measure=>simp[intOf];omega
       | false =>
        go_wp2_with (go_at_call 225;refine(HC.out _ (HK.out.trans (ja _ _))).mono ?_;rintro e w1 ⟨rfl,k1⟩;have K1:=lH k1.kept;clear k1)
        go_roundw
        case rel=>exact⟨k+1,n+1,by omega,by go_num,by go_num,by omega,by have:=HS.out;simp at this;omega,HK.out.trans ((ja _ _).trans K1.out)⟩
        case measure=>simp[intOf];omega
    · have UC:=lH hK;have HS:=lH (show softN l t=n by rw[←hrest,zZ (by rw[HL.out];exact hlt)];rfl);clear hK hrest;go_wp2;go_ret;exact⟨by rw[HS.out];rfl,UC.out⟩
open Go.RowKit
theorem jlY {v v':Value} {l t:NL} {x y:ByteArray} {m b:Bool} {w:World} (h:Reads jz w v l) (h':Reads jz w v' t) (hx:wT (zT l t)=(x,y,m)) (hb:(zT l t).isSome=b) :
 Calls Tryz.prog 193 #[v,v'] w (Say (.tuple #[NV x y m,.bool b]) w):=by
 obtain⟨a,cap,rfl,_,_,hr⟩:=h;obtain⟨a',cap',rfl,_,_,hr'⟩:=h';exact(jje a a' _ cap _ cap' l t w hr hr').mono fun e w' ⟨he,k⟩=>⟨by rw[he,hx,hb],k⟩
theorem jmI {v v':Value} {l t:NL} {n:Nat} {w:World} (h:Reads jz w v l) (h':Reads jz w v' t) (hn:softN l t=n) :
 Calls Tryz.prog 235 #[v,v'] w (Say (.int .i64 n) w):=by
 obtain⟨a,cap,rfl,_,_,hr⟩:=h;obtain⟨a',cap',rfl,_,_,hr'⟩:=h';exact(jkI a a' _ cap _ cap' l t w hr hr').mono fun e w' ⟨he,k⟩=>⟨by rw[he,hn],k⟩
end Go.Proofs.YtibepooajeakfaaGreat
