/- What serves all packages,and package by package the contracts of the functions that the law calls. -/
import Derived.Test.YtmlgobiifebjkacGreatG0
import Derived.Lib.AtoiErrMem
import Derived.Shelf.Strings.BuilderX
import Derived.StillTailTactics
import Derived.Lib.ItoaLen
import Derived.Lib.AppendIntMem
import Derived.Lib.SmallJoins
import Derived.Test.YtmlgobiifebjkacGreatRows
import Derived.Stop.LaidErr
import Derived.Stop.Joined
import Derived.MakeChecks
import Derived.Shelf.SlSortCmp.QuietGrown
set_option linter.unusedVariables false
set_option maxRecDepth 100000
set_option maxHeartbeats 25600000
namespace Go.Proofs.YtmlgobiifebjkacGreat
open Go.RowKit Go.Shelf
attribute [local go_sem] Oper.semAt_some
structure St (b2 D:Nat) (W W':World):Prop where
 os:W'.os=W.os
 tape:W'.tape=W.tape
 output:W'.output=W.output
 size:W.heap.size≤W'.heap.size
 block:∀b,b≠b2→b≠D→b≠D+1→W'.heap[b]?=W.heap[b]?
theorem St.setCell {b2 D:Nat} (W:World) (v:Value):St b2 D W (W.setCell ⟨b2,0,none⟩ v) :=
 ⟨rfl,rfl,rfl,by show W.heap.size≤(W.heap.modify _ _).size;rw[Array.size_modify];exact Nat.le_refl _,fun b h _ _=>Below.heap_setCell W ⟨b2,0,none⟩ v b h⟩
theorem St.drewN {b2 D:Nat} (W:World) (n:Nat):St b2 D W (W.drewN n):=⟨rfl,rfl,rfl,Nat.le_refl _,fun _ _ _ _=>rfl⟩
theorem St.put {b2 D:Nat} (W:World) (o:Obj):St b2 D W (W.putObj (D+1) o):=⟨rfl,rfl,rfl,by simp,fun b _ _ h=>World.putObj_heap_other h⟩
def KeptAt (b1 b2 b3 D:Nat) (W W':World):Prop:=∀b,b=b1∨b=b2∨b=b3∨b=D∨b=D+1→W'.heap[b]?=W.heap[b]?
theorem KeptAt.trans {b1 b2 b3 D:Nat} {A B C:World} (h:KeptAt b1 b2 b3 D A B) (k:KeptAt b1 b2 b3 D B C):KeptAt b1 b2 b3 D A C:=fun b hb=>(k b hb).trans (h b hb)
theorem KeptAt.drewN {b1 b2 b3 D:Nat} (W:World) (n:Nat):KeptAt b1 b2 b3 D W (W.drewN n):=fun _ _=>rfl
end Go.Proofs.YtmlgobiifebjkacGreat
namespace Go.Proofs.YtmlgobiifebjkacGreat
open Go.RowKit Go.Shelf
attribute [local go_sem] Oper.semAt_some
theorem Own.row {α:Type} {L:Lay α} {e:TypeId} {w:World} {B n:Nat} {v:Value} {l:List α} (h:Own L e w B v l) (hn:l.length=n):w.ownsRow B e L.m v n (rowCells L l):=hn▸h.1
def RowRes {α:Type} (L:Lay α) (e:TypeId) (r:Int×List α) (base:Nat) (w:World) (en:Ending) (w':World):Prop :=
 (r.1=0→∃v,en=.returned v∧Own L e w' base v r.2)∧(r.1≠0→en=.panicked [perr r.1])∧Below base w w'
theorem RowRes.good {α:Type} {L:Lay α} {e:TypeId} {r:Int×List α} {base:Nat} {w w':World} {v:Value} (h:r.1=0) (ho:Own L e w' base v r.2) (hb:Below base w w'):RowRes L e r base w (.returned v) w':=⟨fun _=>⟨v,rfl,ho⟩,fun g=>absurd h g,hb⟩
theorem RowRes.bad {α:Type} {L:Lay α} {e:TypeId} {r:Int×List α} {base:Nat} {w w':World} {c:Int} (h:r.1=c) (hc:c≠0) (hb:Below base w w'):RowRes L e r base w (.panicked [perr c]) w':=⟨fun g=>absurd (h.symm.trans g) hc,fun _=>by rw[h],hb⟩
end Go.Proofs.YtmlgobiifebjkacGreat
namespace Go.Proofs.YtmlgobiifebjkacGreat.Vec
open Go.RowKit
def nameOf (p:List UInt8):List UInt8:=(Lib.cut p [61]).1
def numOf' (p:List UInt8):List UInt8:=(Lib.cut p [61]).2.1
end Go.Proofs.YtmlgobiifebjkacGreat.Vec
namespace Go.Proofs.YtmlgobiifebjkacGreat.Vec
open Go.RowKit Go.Shelf
attribute [local go_sem] Oper.semAt_some
theorem OwnV.put {e:TypeId} {w:World} {B D:Nat} {v:Value} {l:V} (h:OwnV e w B v l) (hD:D<B) (o:Obj):OwnV e (w.putObj D o) B v l:=by
 obtain⟨⟨h0,h1⟩,hf⟩:=h;refine⟨⟨h0,h1.imp id ?_⟩,hf⟩;rintro ⟨g,cap,cur,rfl,hbg,hg,rest⟩;exact⟨g,cap,cur,rfl,hbg,(World.putObj_heap_other (by omega)).trans hg,rest⟩
theorem OwnV.row {e:TypeId} {w:World} {B n:Nat} {v:Value} {l:V} (h:OwnV e w B v l) (hn:l.length=n):w.ownsRow B e 2 v n (cellsOf l):=hn▸h.1
end Go.Proofs.YtmlgobiifebjkacGreat.Vec
namespace Go.Proofs.YtmlgobiifebjkacGreat.Vec
open Go.RowKit Go.Shelf
def Others (b:Nat) (w w':World):Prop:=∀g cs fr,g≠b→w.heap[g]?=some (.cells cs 103 fr)→w'.heap[g]?=w.heap[g]?
theorem Others.trans {b:Nat} {x y z:World} (h:Others b x y) (k:Others b y z):Others b x z:=fun g cs fr hg hc=>(k g cs fr hg ((h g cs fr hg hc).trans hc)).trans (h g cs fr hg hc)
open Go.RowKit
theorem Reads.nil (w:World):Reads w (.slice none 0 0) []:=⟨none,0,rfl,Nat.le_refl _,by decide,VecAt.nil w⟩
theorem refCheckR {v:Value} {l:V} {c:Int} {w:World} (h:Reads w v l) (e:checkV l=c) :
 Calls Tryz.prog 30 #[v] w fun x w'=>x=.returned (.int .i64 c)∧Kept w w':=by
 subst e;obtain⟨a,cap,rfl,h1,h2,h3⟩:=h;exact refCheck_any a _ cap l w h3
theorem getR {v:Value} {l:V} {n:ByteArray} {c:Int} {w:World} (h:Reads w v l) (e:getV l n=c) :
 Calls Tryz.prog 89 #[v,.string n] w fun x w'=>x=.returned (.int .i64 c)∧Kept w w':=by
 subst e;obtain⟨a,cap,rfl,h1,h2,h3⟩:=h;exact get_any a _ cap l n w h3
theorem fitsR {v v':Value} {l l':V} {c:Bool} {w:World} (h:Reads w v l) (h':Reads w v' l') (e:fitsFrom l' l=c) :
 Calls Tryz.prog 147 #[v,v'] w fun x w'=>x=.returned (.bool c)∧Kept w w':=by
 subst e;obtain⟨a,cap,rfl,h1,h2,h3⟩:=h;obtain⟨a',cap',rfl,h1',h2',h3'⟩:=h';exact fits_any a a' _ cap _ cap' l l' w h3 h3'
theorem fewR {v:Value} {l:V} {c:Bool} {w:World} (h:Reads w v l) (e:fewV l=c) :
 Calls Tryz.prog 25 #[v] w fun x w'=>x=.returned (.bool c)∧w=w':=by
 subst e;obtain⟨a,cap,rfl,h1,h2,h3⟩:=h;exact few_any a _ cap l w h3
def cpu:ByteArray:=⟨#[99,112,117]⟩
def mem:ByteArray:=⟨#[109,101,109]⟩
def kA:V:=[(cpu,100),(mem,5)]
theorem refInfo:(Tryz.prog.info? 132).map (fun i=>(i.zero,i.size,i.bytes))=some (some (.agg #[.string ByteArray.empty,.int .i64 0]),2,24):=by kernel_rfl
theorem take_next {l:V} {k:Nat} (h:k<l.length):l.take (k+1)=l.take k++[(nm l k,qn l k)]:=by
 rw[List.take_add_one];congr 1;have:l.getD k (ByteArray.empty,0)=l[k]:=by simp[List.getD,h]
 have e:(nm l k,qn l k)=l[k]:=by simp only[nm,qn,this]
 rw[e];simp[h]
theorem of_own (a:Option Addr) (len cap:Nat) (l:V) (w:World) (hr:VecAt w a len l) (hlen:len≤1000000) :
 Calls Tryz.prog 34 #[.slice a len cap] w (fun e w'=>∃x,e=.returned x∧OwnV 132 w' w.heap.size x l∧Kept w w'):=by
 have hl:=hr.1;obtain⟨i0,hi,hz0,hz1,hz2⟩:=info_parts refInfo;rcases hr.form with h0 | ⟨b,off,rfl⟩
 · subst h0;have hl0:l=[]:=List.eq_nil_of_length_eq_zero hl;subst hl0;clear hr hl hi hz0 hz1 hz2;go_enter Tryz.func34,Tryz.ntmps34;go_wp2;refine wp_loop_rounds 1 ?_;rw[rounds_succ];go_wp2;go_ret;exact⟨_,rfl,OwnV.nil _ _ _,Kept.refl _⟩
 · have HR:=lH hr;have HL:=lH hl;have HF:=lH hr.2.2.1;clear hr hl;go_enter Tryz.func34,Tryz.ntmps34;go_wp2;go_loopw [3,4] (fun v i wr=>∃k:Nat,k≤len∧i=.int .i64 k∧OwnV 132 wr w.heap.size v (l.take k)∧Below w.heap.size w wr) (fun _ i _=>len-(intOf i).toNat)
   case atStart=>exact⟨0,Nat.zero_le _,rfl,OwnV.nil _ _ _,Below.refl _ _⟩
   case round =>
    obtain⟨k,hk,rfl,ho,hB⟩:=hrel;have HO:=lH ho;have HB:=lH hB;have HT:=lH (show (l.take k).length=k by rw[List.length_take,HL.out];omega);have HOWN:=lH (show wr.ownsRow w.heap.size 132 2 u3 k (cellsOf (l.take k)) by have:=HO.out.1;rw[HT.out] at this;exact this);by_cases hlt:k<len
    · obtain⟨hb,c1,c2⟩:=(HR.out.kept hB).cells hlt;have HI:=lH (show k<l.length by rw[HL.out];exact hlt);have hbw:b<w.heap.size:=(HR.out.cells hlt).1;have hbase:w.heap.size≤wr.heap.size:=hB.size;have HNE:=lH (show u3.ownBlock≠some b by
       intro e;have:=(HOWN.out.lt b e).1;omega)
      have HBASE:=lH (show w.heap.size≤(wr.alloc (.cells #[.string (nm l k),.int .i64 (qn l k)] 132)).drew.heap.size by simp;omega);have HBD:=lH (show Below w.heap.size w ((wr.alloc (.cells #[.string (nm l k),.int .i64 (qn l k)] 132)).drew) from HB.out.trans (Below.mono ((kept_alloc wr _).trans (Kept.drewN _ 1)) hbase));have hk1:(k:Int)<(len:Int):=by omega
      have HFK:=lH (HF.out k HI.out);clear ho hB;go_wp2_with fail
      go_region_held3 (fun W=>W.cell? ⟨b,off+k*2,none⟩=some (.string (nm l k))∧W.cell? ⟨b,off+k*2+1,none⟩=some (.int .i64 (qn l k)))
       (first
         | go_keep
         | (go_split_ands
            refine⟨?_,?_⟩
            · (refine(hgrow.cell_far ⟨b,off+k*2,none⟩ (by simp;omega) (Ne.symm HNE.out)).trans ?_;assumption)
            · (refine(hgrow.cell_far ⟨b,off+k*2+1,none⟩ (by simp;omega) (Ne.symm HNE.out)).trans ?_;assumption)))
       ((refine step_append_lies _ (by rfl) _ _ _ (by rfl) w.heap.size 132 i0 _ 2 24 Tryz.underlying40 hi hz0 hz1 hz2 rfl (by decide) u3 k (cellsOf (l.take k)) (by rfl) ((HOWN.out.alloc _).drew)
          ⟨wr.heap.size,0,none⟩ 1 1 [.string (nm l k),.int .i64 (qn l k)] (by rfl) (by rfl) (World.news_of_block (cs:=#[.string (nm l k),.int .i64 (qn l k)]) (t:=132) (fr:=(0,0)) (heap_alloc_new wr _)) (cellsOf_one [(nm l k,qn l k)])
          (by decide) (by unfold maxLen;omega) (by omega) (by simp;omega) (wr.heap.size+1) (by simp) ?_;intro gg cap1 w1 hown1 hgrow hat hlt1))
      all_goals
       go_wp2;go_roundw
       case rel=>exact⟨k+1,by omega,by go_num,⟨by rw[take_next HI.out,cellsOf_append,List.length_append,HT.out];exact hown1,by rw[take_next HI.out];exact HO.out.2.snoc HFK.out.1 HFK.out.2.1 HFK.out.2.2⟩,HBD.out.grown hgrow HBASE.out (fun j hj=>(HOWN.out.lt j hj).1)⟩
       case measure=>simp[intOf];omega
    · have HK:=lH (show l.take k=l by rw[List.take_of_length_le (by rw[HL.out];omega)]);clear ho hB;go_wp2;go_ret;exact⟨_,rfl,by have h:=HO.out;rw[HK.out] at h;exact h,HB.out⟩
theorem less_irrefl:∀s:List UInt8,Op.bytesLess s s=false
 | []=>rfl
 | a::s=>by
  have:¬a<a:=UInt8.lt_irrefl a;simp[Op.bytesLess,less_irrefl s,this]
theorem less_trans:∀{a b c:List UInt8},Op.bytesLess a b=true→Op.bytesLess b c=true→Op.bytesLess a c=true
 | _,_,[],_,h=>by simp[Op.bytesLess] at h
 | [],_,_::_,_,_=>by simp[Op.bytesLess]
 | x::a,[],z::c,h,_=>by simp[Op.bytesLess] at h
 | x::a,y::b,z::c,h,g=>by
  simp only[Op.bytesLess,Bool.or_eq_true,Bool.and_eq_true,decide_eq_true_eq,beq_iff_eq] at h g ⊢;rcases h with h | ⟨rfl,h⟩
  · rcases g with g | ⟨rfl,g⟩
    · exact .inl (UInt8.lt_trans h g)
    · exact .inl h
  · rcases g with g | ⟨rfl,g⟩
    · exact .inl g
    · exact .inr ⟨rfl,less_trans h g⟩
theorem less_tri:∀{a b:List UInt8},Op.bytesLess a b=false→Op.bytesLess b a=false→a=b
 | [],[],_,_=>rfl
 | [],_::_,h,_=>by simp[Op.bytesLess] at h
 | _::_,[],_,h=>by simp[Op.bytesLess] at h
 | x::a,y::b,h,g=>by
  simp only[Op.bytesLess,Bool.or_eq_false_iff,decide_eq_false_iff_not,Bool.and_eq_false_iff,beq_eq_false_iff_ne] at h g;have e:x=y:=by
   have h1:=UInt8.not_lt.1 h.1;have h2:=UInt8.not_lt.1 g.1;exact UInt8.le_antisymm h2 h1
  subst e;have h2:=h.2.resolve_left (by simp);have g2:=g.2.resolve_left (by simp);rw[less_tri h2 g2]
theorem lt_of (s t:ByteArray):ltS s t=Op.bytesLess s.data.toList t.data.toList:=by unfold ltS;rw[Lib.toList_data,Lib.toList_data]
theorem eqS_iff {s t:ByteArray}:eqS s t=true↔s=t:=by
 unfold eqS;rw[Lib.toList_data,Lib.toList_data,beq_iff_eq];exact⟨fun h=>Go.WideShapes.bytes_inj h,fun h=>by rw[h]⟩
theorem lt_irrefl' (s:ByteArray):ltS s s=false:=by rw[lt_of];exact less_irrefl _
theorem lt_trans' {s t u:ByteArray} (h:ltS s t=true) (g:ltS t u=true):ltS s u=true:=by
 rw[lt_of] at *;exact less_trans h g
theorem lt_tri' {s t:ByteArray} (h:ltS s t=false) (g:ltS t s=false):s=t:=by
 rw[lt_of] at *;exact Go.WideShapes.bytes_inj (less_tri h g)
theorem lt_ne {s t:ByteArray} (h:ltS s t=true):s≠t:=by rintro rfl;rw[lt_irrefl'] at h;cases h
theorem lt_asymm' {s t:ByteArray} (h:ltS s t=true) (g:ltS t s=true):False:=lt_ne (lt_trans' h g) rfl
def Gd (l:V):Prop:=(∀x ∈ l,isName x.1=true∧0<x.2∧x.2≤9223372036854775807)∧l.Pairwise (fun x y=>ltS x.1 y.1=true)
theorem Gd.nil:Gd []:=⟨fun x hx=>absurd hx (by simp),.nil⟩
theorem Gd.cons {x:ByteArray×Int} {t:V}:Gd (x::t)↔(isName x.1=true∧0<x.2∧x.2≤9223372036854775807)∧(∀y ∈ t,ltS x.1 y.1=true)∧Gd t:=by
 unfold Gd;rw[List.pairwise_cons,List.forall_mem_cons];constructor
 · rintro ⟨⟨a,b⟩,c,d⟩;exact⟨a,c,b,d⟩
 · rintro ⟨a,c,b,d⟩;exact⟨⟨a,b⟩,c,d⟩
theorem get_same (x:ByteArray×Int) (t:V):getV (x::t) x.1=x.2:=by rw[getV,if_pos (eqS_iff.2 rfl)]
theorem get_other {x:ByteArray×Int} {n:ByteArray} (t:V) (h:x.1≠n):getV (x::t) n=getV t n:=by rw[getV,if_neg (fun e=>h (eqS_iff.1 e))]
theorem get_zero:∀{l:V} {n:ByteArray},(∀y ∈ l,y.1≠n)→getV l n=0
 | [],_,_=>rfl
 | x::t,n,h=>by rw[get_other t (h x (by simp))];exact get_zero fun y hy=>h y (by simp[hy])
theorem get_mem:∀{l:V} {n:ByteArray},getV l n≠0→∃y ∈ l,y.1=n
 | [],_,h=>absurd rfl h
 | x::t,n,h=>by
  by_cases e:x.1=n
  · exact⟨x,by simp,e⟩
  · rw[get_other t e] at h;obtain⟨y,hy,hn⟩:=get_mem h;exact⟨y,by simp[hy],hn⟩
theorem get_bd:∀{l:V} (n:ByteArray),Gd l→0≤getV l n∧getV l n≤9223372036854775807
 | [],_,_=>⟨Int.le_refl _,(by decide:(0:Int)≤9223372036854775807)⟩
 | x::t,n,h=>by
  have h':=Gd.cons.1 h;by_cases e:x.1=n
  · subst e;rw[get_same];omega
  · rw[get_other t e];exact get_bd n h'.2.2
theorem get_in:∀{l:V} {x:ByteArray×Int},Gd l→x ∈ l→getV l x.1=x.2
 | [],_,_,h=>absurd h (by simp)
 | y::t,x,h,hx=>by
  have h':=Gd.cons.1 h;rcases List.mem_cons.1 hx with rfl | hx
  · exact get_same _ _
  · rw[get_other t (lt_ne (h'.2.1 x hx))];exact get_in h'.2.2 hx
theorem behind_get {l:V} {n:ByteArray} (h:∀y ∈ l,ltS n y.1=true):getV l n=0:=get_zero fun y hy=>(lt_ne (h y hy)).symm
theorem Gd.len:∀{b r:V},Gd r→Gd b→(∀n,getV r n≠0→getV b n≠0)→r.length≤b.length
 | [],[],_,_,_=>Nat.le_refl _
 | [],x::s,hr,_,h=>by
  have:=h x.1;rw[get_same] at this;have h1:=(Gd.cons.1 hr).1;exact absurd rfl (this (by omega))
 | y::t,[],_,_,_=>Nat.zero_le _
 | y::t,x::s,hr,hb,h=>by
  have hr':=Gd.cons.1 hr;have hb':=Gd.cons.1 hb;have:s.length≤t.length:=Gd.len hr'.2.2 hb'.2.2 fun n hn=>by
   obtain⟨z,hz,rfl⟩:=get_mem hn;have hlt:=hr'.2.1 z hz;have hb2:=h z.1 (by rw[get_other s (lt_ne hlt)];exact hn);by_cases e:y.1=z.1
   · obtain⟨u,hu,hux⟩:=get_mem (h x.1 (by rw[get_same];omega));rcases List.mem_cons.1 hu with rfl | hu
     · rw[←hux,e,lt_irrefl'] at hlt;cases hlt
     · have:=hb'.2.1 u hu;rw[hux,e] at this;exact(lt_asymm' hlt this).elim
   · rw[get_other t e] at hb2;exact hb2
  simp only[List.length_cons];omega
theorem leS_false {s t:ByteArray} (h:leS s t=false):ltS t s=true:=by
 unfold leS at h;rw[Bool.or_eq_false_iff] at h
 cases e:ltS t s with
 | true=>rfl
 | false=>rw[lt_tri' h.1 e,eqS_iff.2 rfl] at h;cases h.2
theorem leS_of_lt {s t:ByteArray} (h:ltS t s=true):leS s t=false:=by
 unfold leS;rw[Bool.or_eq_false_iff];refine⟨?_,?_⟩
 · cases e:ltS s t with
   | false=>rfl
   | true=>exact(lt_asymm' h e).elim
 · cases e:eqS s t with
   | false=>rfl
   | true=>exact absurd (eqS_iff.1 e).symm (lt_ne h)
theorem check_good {l:V} (h:checkV l=0) (hf:Fine l):Gd l:=by
 have h2:checkFrom none l=0:=by
  unfold checkV at h;split at h
  · cases h
  · exact h
 have key:∀(l:V) (p:Option ByteArray),checkFrom p l=0→Fine l→Gd l∧(∀x,p=some x→∀y ∈ l,ltS x y.1=true):=by
  intro l
  induction l with
  | nil=>intro p _ _;exact⟨Gd.nil,fun _ _ y hy=>absurd hy (by simp)⟩
  | cons x t ih =>
   intro p hc hf;rw[Fine.cons] at hf;unfold checkFrom at hc;split at hc
   · cases hc
   · rename_i n1;split at hc
     · cases hc
     · rename_i n2;split at hc
       · cases hc
       · rename_i n3;obtain⟨hg,hall⟩:=ih _ hc hf.2;have hx:=hall x.1 rfl;refine⟨Gd.cons.2 ⟨⟨by simpa using n1,by omega,hf.1.2.2⟩,hx,hg⟩,?_⟩;rintro q rfl y hy;have hq:ltS q x.1=true:=leS_false (by simpa [behindB] using n3);rcases List.mem_cons.1 hy with rfl | hy
         · exact hq
         · exact lt_trans' hq (hx y hy)
 exact(key l none h2 hf).1
theorem take_spec {l:V} {s:ByteArray} (hg:Gd l) (h:∀y ∈ l,y.1=s∨ltS s y.1=true) :
 (takenV l s).1=getV l s∧Gd (takenV l s).2∧(∀y ∈ (takenV l s).2,ltS s y.1=true)∧(∀n,n≠s→getV (takenV l s).2 n=getV l n)∧(∀m,(∀y ∈ l,ltS m y.1=true)→∀y ∈ (takenV l s).2,ltS m y.1=true):=by
 cases l with
 | nil=>exact⟨rfl,hg,fun y hy=>absurd hy (by simp[takenV]),fun _ _=>rfl,fun _ _ y hy=>absurd hy (by simp[takenV])⟩
 | cons x t =>
  have hg':=Gd.cons.1 hg;rw[taken_cons];by_cases e:x.1=s
  · rw[if_pos (eqS_iff.2 e)];subst e;exact⟨(get_same x t).symm,hg'.2.2,hg'.2.1,fun n hn=>(get_other t (Ne.symm hn)).symm,fun m hm y hy=>hm y (by simp[hy])⟩
  · rw[if_neg (fun c=>e (eqS_iff.1 c))];have hx:ltS s x.1=true:=(h x (by simp)).resolve_left e;have hall:∀y ∈ x::t,ltS s y.1=true:=fun y hy=>by
     rcases List.mem_cons.1 hy with rfl | hy
     · exact hx
     · exact lt_trans' hx (hg'.2.1 y hy)
    exact⟨(behind_get hall).symm,hg,hall,fun _ _=>rfl,fun m hm=>hm⟩
theorem foremost_spec {la lb:V} (ha:Gd la) (hb:Gd lb) (h:0<la.length+lb.length) :
 isName (foremostV la lb)=true∧(∀y ∈ la,y.1=foremostV la lb∨ltS (foremostV la lb) y.1=true)∧(∀y ∈ lb,y.1=foremostV la lb∨ltS (foremostV la lb) y.1=true) ∧
  (∀m,(∀y ∈ la,ltS m y.1=true)→(∀y ∈ lb,ltS m y.1=true)→ltS m (foremostV la lb)=true):=by
 have own:∀{x:ByteArray×Int} {t:V},Gd (x::t)→∀y ∈ x::t,y.1=x.1∨ltS x.1 y.1=true:=fun {x t} hg y hy=>by
  rcases List.mem_cons.1 hy with rfl | hy
  · exact .inl rfl
  · exact .inr ((Gd.cons.1 hg).2.1 y hy)
 cases la with
 | nil =>
  cases lb with
  | nil=>simp at h
  | cons y t=>exact⟨(Gd.cons.1 hb).1.1,fun z hz=>absurd hz (by simp),own hb,fun m _ hm=>hm y (by simp)⟩
 | cons x s =>
  cases lb with
  | nil=>exact⟨(Gd.cons.1 ha).1.1,own ha,fun z hz=>absurd hz (by simp),fun m hm _=>hm x (by simp)⟩
  | cons y t =>
   rw[foremost_cons];by_cases e:ltS y.1 x.1=true
   · rw[if_pos e];refine⟨(Gd.cons.1 hb).1.1,fun z hz=>.inr ?_,own hb,fun m _ hm=>hm y (by simp)⟩;rcases own ha z hz with hz | hz
     · rw[hz];exact e
     · exact lt_trans' e hz
   · rw[if_neg e];refine⟨(Gd.cons.1 ha).1.1,own ha,fun z hz=>?_,fun m hm _=>hm x (by simp)⟩;have e':ltS y.1 x.1=false:=by simpa using e
     have hxy:y.1=x.1∨ltS x.1 y.1=true:=by
      cases e2:ltS x.1 y.1 with
      | true=>exact .inr rfl
      | false=>exact .inl (lt_tri' e' e2)
     rcases own hb z hz with hz | hz
     · rw[hz];exact hxy
     · rcases hxy with hxy | hxy
       · rw[←hxy];exact .inr hz
       · exact .inr (lt_trans' hxy hz)
theorem Reads.fine {v:Value} {l:V} {w:World} (h:Reads w v l):Fine l:=by
 obtain⟨a,cap,rfl,h1,h2,h3⟩:=h;exact h3.2.2.1
open Go.ChangeShapes Go.WideShapes Go.ChangeAt Go.RowKit Go.Deep
theorem cells2:Tryz.prog.cellsOf 103=2:=by kernel_rfl
theorem cellsS:Tryz.prog.cellsOf 9=1:=by kernel_rfl
theorem cellsI:Tryz.prog.cellsOf 2=1:=by kernel_rfl
theorem amount_of_trod {H:Type} {enc:TypeId×Value→H} {w:World} {base fuel:Nat} {sp:Nat→Bool} {held:Bool} {cs:List Value} {x:DataW H×List MemPlace} (h:DataW.trod enc Tryz.prog w base sp held fuel 103 cs=some x) :
 ∃(s:ByteArray) (n:Int),cs=[.string s,.int .i64 n]∧s.size≤maxLen∧-9223372036854775808≤n∧n≤9223372036854775807:=by
 obtain⟨ys,m,-,-,hlen,hyl,hf⟩:=DataW.trod_struct Tryz.underlying103 h;rw[cells2] at hlen
 match cs,hlen with
 | [c0,c1],_ =>
  have h0:DataW.trod enc Tryz.prog w base sp held m 9 (([c0,c1].drop 0).take (Tryz.prog.cellsOf 9))=ys[0]?:=hf 0 _ rfl;have h1:DataW.trod enc Tryz.prog w base sp held m 2 (([c0,c1].drop 1).take (Tryz.prog.cellsOf 2))=ys[1]?:=hf 1 _ rfl;rw[cellsS] at h0;rw[cellsI] at h1;obtain⟨y0,e0⟩:∃y,ys[0]?=some y:=⟨_,List.getElem?_eq_getElem (by rw[hyl];decide)⟩
  obtain⟨y1,e1⟩:∃y,ys[1]?=some y:=⟨_,List.getElem?_eq_getElem (by rw[hyl];decide)⟩
  rw[e0] at h0;rw[e1] at h1;obtain⟨s,q0,-,hs⟩:=DataW.trod_string Tryz.underlying9 h0;obtain⟨n,q1,-,hn⟩:=DataW.trod_int Tryz.underlying2 h1;simp only[List.drop_zero,List.take_succ_cons,List.take_zero,List.cons.injEq,and_true,List.drop_succ_cons] at q0 q1;subst q0;subst q1;have:=bounds_i64 hn;exact⟨s,n,rfl,hs,this.1,this.2⟩
theorem nm_left {l m:V} {i:Nat} (h:i<l.length):nm (l++m) i=nm l i∧qn (l++m) i=qn l i:=by
 unfold nm qn;simp[List.getD,List.getElem?_append_left h]
theorem nm_last (l:V) (s:ByteArray) (n:Int):nm (l++[(s,n)]) l.length=s∧qn (l++[(s,n)]) l.length=n:=by
 unfold nm qn;simp[List.getD]
theorem reads_of_trod {H:Type} {enc:TypeId×Value→H} {w:World} {base fuel:Nat} {sp:Nat→Bool} {held:Bool} {v:Value} {x:DataW H×List MemPlace} (h:DataW.trod enc Tryz.prog w base sp held fuel 28 [v]=some x) :
 ∃l,Reads w v l:=by
 rcases open_slice Tryz.underlying28 h with ⟨hcs,-⟩ | ⟨a,len,cap,m,n,D,Pl,hcs,hb,hl,hm,hmm,hx,hi⟩
 · cases hcs;exact⟨[],Reads.nil w⟩
 · cases hcs
   have hlm:len≤m:=by rw[hmm];split<;>omega
   have key:∀k,k≤len→∃l:V,l.length=k∧∀i,i<k→((nm l i).size≤maxLen∧-9223372036854775808≤qn l i∧qn l i≤9223372036854775807) ∧
    w.cell? ((a.add (i*2)).add 0)=some (.string (nm l i))∧w.cell? ((a.add (i*2)).add 1)=some (.int .i64 (qn l i)):=by
    intro k
    induction k with
    | zero=>exact fun _=>⟨[],rfl,fun i hi=>absurd hi (by omega)⟩
    | succ k ih =>
     intro hk;obtain⟨l,e,hall⟩:=ih (by omega);obtain⟨cs',hc,ht'⟩:=hi k (by omega);obtain⟨s,q,rfl,b1,b2,b3⟩:=amount_of_trod ht';rw[cells2] at hc;obtain⟨-,-,hat⟩:=World.cells?_some hc;refine⟨l++[(s,q)],by simp[e],fun i hi=>?_⟩;by_cases e2:i=k
     · subst e2;subst e;rw[(nm_last l s q).1,(nm_last l s q).2];exact⟨⟨b1,b2,b3⟩,hat 0 (by decide),hat 1 (by decide)⟩
     · rw[(nm_left (by omega)).1,(nm_left (by omega)).2];exact hall i (by omega)
   obtain⟨l,e,hall⟩:=key len (Nat.le_refl _);subst e;refine⟨l,_,cap,rfl,hl,hm,rfl,Nat.le_trans hl hm,fun i hi=>(hall i hi).1,?_⟩;by_cases h0:l.length=0
   · exact .inl h0
   · obtain⟨b,off,spot⟩:=a;have hc:=(hall 0 (by omega)).2.1;have hspot:spot=none:=by simpa [Addr.add] using World.cell?_spot hc
     subst hspot;have hcell:∀i,i<l.length→w.cell? ⟨b,off+i*2,none⟩=some (.string (nm l i))∧w.cell? ⟨b,off+i*2+1,none⟩=some (.int .i64 (qn l i)):=fun i hi=>by
      have c:=(hall i hi).2;by_cases hi0:i=0
      · subst hi0;simpa [Addr.add] using c
      · have h2:¬i*2=0:=by omega
        simpa [Addr.add,h2] using c
     exact .inr ⟨b,off,rfl,World.block_lt_of_cell? _ _ (hcell 0 (by omega)).1,hcell⟩
end Go.Proofs.YtmlgobiifebjkacGreat.Vec
namespace Go.Proofs.YtmlgobiifebjkacGreat
open Go.RowKit
abbrev PL:=List (ByteArray×ByteArray)
abbrev TL:=List (Int×ByteArray×ByteArray)
def behindB (prev:Option ByteArray) (s:ByteArray):Bool:=match prev with | none=>false | some p=>leS s p
def prevP (l:PL) (k:Nat):Option ByteArray:=if k=0 then none else (l[k-1]?).map (·.1)
def chkFrom:Option ByteArray→PL→Int
 | _,[]=>0
 | prev,x::t=>if (isName x.1&&isName x.2)=false then 3 else if behindB prev x.1=true then 13 else chkFrom (some x.1) t
def chkS (l:PL):Int:=if 8<l.length then 4 else chkFrom none l
theorem behind_zero {l:PL} {k:Nat} (h:k=0) (s:ByteArray):behindB (prevP l k) s=false:=by unfold prevP;rw[if_pos h];rfl
theorem behind_prev {l:PL} {k:Nat} {x y:ByteArray} (h:¬k=0) (hx:l[k-1]?=some (x,y)) (s:ByteArray):behindB (prevP l k) s=leS s x:=by unfold prevP;rw[if_neg h,hx];rfl
theorem prev_succ {l:PL} {k:Nat} {x y:ByteArray} (hx:l[k]?=some (x,y)):prevP l (k+1)=some x:=by unfold prevP;rw[if_neg (by omega),Nat.add_sub_cancel,hx];rfl
theorem chk_name {p:Option ByteArray} {x y:ByteArray} {t:PL} (n:(isName x&&isName y)=false):chkFrom p ((x,y)::t)=3:=by rw[chkFrom,if_pos n]
theorem chk_order {p:Option ByteArray} {x y:ByteArray} {t:PL} (n1:isName x=true) (n2:isName y=true) (b:behindB p x=true):chkFrom p ((x,y)::t)=13:=by
 rw[chkFrom,if_neg (by dsimp only;rw[n1,n2];decide),if_pos b]
theorem chk_next {p:Option ByteArray} {x y:ByteArray} {t:PL} (n1:isName x=true) (n2:isName y=true) (b:behindB p x=false):chkFrom p ((x,y)::t)=chkFrom (some x) t:=by
 rw[chkFrom,if_neg (by dsimp only;rw[n1,n2];decide),if_neg (by dsimp only;rw[b];decide)]
abbrev TV (o:Int) (x y:ByteArray):Value:=.agg #[.int .i64 o,.string x,.string y]
def chkT (t:Int×ByteArray×ByteArray):Int :=
 if t.1=1∨t.1=2 then (if (isName t.2.1&&isName t.2.2)=true then 0 else 3)
 else if t.1=3∨t.1=4 then (if (isName t.2.1&&eqS t.2.2 ByteArray.empty)=true then 0 else 3)
 else 1
def chkLF:TL→Int
 | []=>0
 | t::r=>if chkT t≠0 then chkT t else chkLF r
def chkL (l:TL):Int:=if 8<l.length then 4 else chkLF l
theorem chkT_eq {o:Int} {x y:ByteArray}:chkT (o,x,y)=if o=1∨o=2 then (if (isName x&&isName y)=true then 0 else 3)
 else if o=3∨o=4 then (if (isName x&&eqS y ByteArray.empty)=true then 0 else 3) else 1:=rfl
theorem chkLF_cons (t:Int×ByteArray×ByteArray) (r:TL):chkLF (t::r)=if chkT t≠0 then chkT t else chkLF r:=rfl
def getS:PL→ByteArray→Option ByteArray
 | [],_=>none
 | x::t,n=>if eqS x.1 n=true then some x.2 else getS t n
def getT (s:PL) (n:ByteArray):ByteArray:=(getS s n).getD ByteArray.empty
def hasS (s:PL) (n:ByteArray):Bool:=(getS s n).isSome
theorem getS_cons (x y:ByteArray) (t:PL) (n:ByteArray):getS ((x,y)::t) n=if eqS x n=true then some y else getS t n:=rfl
theorem ret_get {s:PL} {n:ByteArray} {o:Option ByteArray} (h:getS s n=o):Ending.returned (.tuple #[.string (o.getD ByteArray.empty),.bool o.isSome])=.returned (.tuple #[.string (getT s n),.bool (hasS s n)]):=by
 unfold getT hasS;rw[h]
theorem getS_size {s:PL} {n v:ByteArray} (hf:∀x ∈ s,PairLay.fine x) (h:getS s n=some v):v.size≤maxLen:=by
 induction s with
 | nil=>cases h
 | cons x t ih =>
  rw[getS] at h;split at h
  · injection h with h;subst h;exact(hf x (by simp)).2
  · exact ih (fun y hy=>hf y (by simp[hy])) h
theorem get_any (a:Option Addr) (len cap:Nat) (l:PL) (n:ByteArray) (w:World) (hr:RowAt PairLay w a len l) :
 Calls Tryz.prog 185 #[.slice a len cap,.string n] w fun e w'=>e=.returned (.tuple #[.string (getT l n),.bool (hasS l n)])∧Kept w w':=by
 have hl:=hr.1;have hm:=hr.2.1;unfold maxLen at hm;rcases hr.form with h0 | ⟨b,off,rfl⟩
 · subst h0;have HE:=lH (show getS l n=none by rw[List.eq_nil_of_length_eq_zero hl];rfl);clear hr hl;go_enter Tryz.func185,Tryz.ntmps185;go_wp2;refine wp_loop_rounds 1 ?_;rw[rounds_succ];go_wp2;go_ret2
   exact⟨ret_get HE.out,Kept.refl _⟩
 · have HR:=lH hr;have HL:=lH hl;clear hr hl;go_enter Tryz.func185,Tryz.ntmps185;go_wp2;go_loopw [10] (fun i wr=>∃k:Nat,k≤len∧i=.int .i64 k∧getS (l.drop k) n=getS l n∧Kept w wr) (fun i _=>len-(intOf i).toNat)
   case atStart=>exact⟨0,Nat.zero_le _,rfl,rfl,Kept.refl _⟩
   case round =>
    obtain⟨k,hk,rfl,hrest,hK⟩:=hrel;by_cases hlt:k<len
    · obtain⟨x,y,hx,hd,hb,hz,hz2,c1,c2⟩:=(HR.out.kept hK).pair hlt;have HK:=lH hK;have HT:=lH (hrest.symm.trans ((congrArg (fun z=>getS z n) hd).trans (getS_cons _ _ _ _)));clear hK hrest hx hd;by_cases e:eqS x n=true
      · have E:=lH e;have e':(x.toList==n.toList)=true:=e;clear e;go_wp2;go_ret2
        exact⟨ret_get (HT.out.trans (if_pos E.out)),HK.out.trans (kept_alloc _ _)⟩
      · have E:=lH e;have e':(x.toList==n.toList)=false:=by unfold eqS at e;simpa using e
        clear e;go_wp2;go_roundw
        case rel=>exact⟨k+1,by omega,by go_num,(HT.out.trans (if_neg E.out)).symm,HK.out.trans (kept_alloc _ _)⟩
        case measure=>simp[intOf];omega
    · have HK:=lH hK;have HS:=lH (hrest.symm.trans (congrArg (fun z=>getS z n) (drop_end (by rw[HL.out];exact hlt))));clear hK hrest;go_wp2;go_ret2
      exact⟨ret_get (HS.out.trans rfl),HK.out⟩
def holdsT (s:PL) (t:Int×ByteArray×ByteArray):Bool :=
 if t.1=1 then hasS s t.2.1&&eqS (getT s t.2.1) t.2.2
 else if t.1=2 then !hasS s t.2.1||!eqS (getT s t.2.1) t.2.2
 else if t.1=3 then hasS s t.2.1
 else if t.1=4 then !hasS s t.2.1 else false
theorem holdsT_eq {s:PL} {o:Int} {x y:ByteArray}:holdsT s (o,x,y)=if o=1 then hasS s x&&eqS (getT s x) y else if o=2 then !hasS s x||!eqS (getT s x) y else if o=3 then hasS s x else if o=4 then !hasS s x else false:=rfl
theorem holds_any (o:Int) (x y:ByteArray) (a:Option Addr) (len cap:Nat) (s:PL) (w:World) (hr:RowAt PairLay w a len s) :
 Calls Tryz.prog 167 #[TV o x y,.slice a len cap] w fun e w'=>e=.returned (.bool (holdsT s (o,x,y)))∧Kept w w':=by
 have HG:=lH (fun (w':World) (k:Kept w w')=>get_any a len cap s x w' (hr.kept k));obtain⟨v,hv⟩:∃v,getT s x=v:=⟨_,rfl⟩
 obtain⟨h,hh⟩:∃h,hasS s x=h:=⟨_,rfl⟩
 obtain⟨q,hq⟩:∃q,eqS v y=q:=⟨_,rfl⟩
 have hq':(v.toList==y.toList)=q:=hq;rw[hv,hh] at HG;clear hr;by_cases h1:o=1
 · subst h1;have HV:=lH (show holdsT s (1,x,y)=(h&&q) by rw[holdsT_eq,if_pos rfl,hv,hh,hq]);clear hv hh hq
   cases h<;>cases q <;>
   (go_enter Tryz.func167,Tryz.ntmps167
    go_wp2_with (go_at_call 185;refine(HG.out _ (kept_alloc _ _)).mono ?_;rintro e w1 ⟨rfl,k1⟩;have K1:=lH k1;have c3:=cell_later k1 (show (w.alloc (.cells #[.int .i64 1,.string x,.string y] 129)).cell? ⟨w.heap.size,2,none⟩=some (.string y) by go_simp);have c0:=cell_later k1 (show (w.alloc (.cells #[.int .i64 1,.string x,.string y] 129)).cell? ⟨w.heap.size,0,none⟩=some (.int .i64 1) by go_simp);clear k1)
    go_ret;exact⟨ret_bool HV.out.symm,(kept_alloc _ _).trans K1.out⟩)
 · by_cases h2:o=2
   · subst h2;have HV:=lH (show holdsT s (2,x,y)=(!h||!q) by rw[holdsT_eq,if_neg (by decide),if_pos rfl,hv,hh,hq]);clear hv hh hq h1
     cases h<;>cases q <;>
     (go_enter Tryz.func167,Tryz.ntmps167
      go_wp2_with (go_at_call 185;refine(HG.out _ (kept_alloc _ _)).mono ?_;rintro e w1 ⟨rfl,k1⟩;have K1:=lH k1;have c3:=cell_later k1 (show (w.alloc (.cells #[.int .i64 2,.string x,.string y] 129)).cell? ⟨w.heap.size,2,none⟩=some (.string y) by go_simp);have c0:=cell_later k1 (show (w.alloc (.cells #[.int .i64 2,.string x,.string y] 129)).cell? ⟨w.heap.size,0,none⟩=some (.int .i64 2) by go_simp);clear k1)
      go_ret;exact⟨ret_bool HV.out.symm,(kept_alloc _ _).trans K1.out⟩)
   · by_cases h3:o=3
     · subst h3;have HV:=lH (show holdsT s (3,x,y)=h by rw[holdsT_eq,if_neg (by decide),if_neg (by decide),if_pos rfl,hh]);clear hv hh hq h1 h2;go_enter Tryz.func167,Tryz.ntmps167;go_wp2_with (go_at_call 185;refine(HG.out _ (kept_alloc _ _)).mono ?_;rintro e w1 ⟨rfl,k1⟩;have K1:=lH k1;have c0:=cell_later k1 (show (w.alloc (.cells #[.int .i64 3,.string x,.string y] 129)).cell? ⟨w.heap.size,0,none⟩=some (.int .i64 3) by go_simp);clear k1)
       go_ret;exact⟨ret_bool HV.out.symm,(kept_alloc _ _).trans K1.out⟩
     · by_cases h4:o=4
       · subst h4;have HV:=lH (show holdsT s (4,x,y)=!h by rw[holdsT_eq,if_neg (by decide),if_neg (by decide),if_neg (by decide),if_pos rfl,hh]);clear hv hh hq h1 h2 h3;go_enter Tryz.func167,Tryz.ntmps167;go_wp2_with (go_at_call 185;refine(HG.out _ (kept_alloc _ _)).mono ?_;rintro e w1 ⟨rfl,k1⟩;have K1:=lH k1;have c0:=cell_later k1 (show (w.alloc (.cells #[.int .i64 4,.string x,.string y] 129)).cell? ⟨w.heap.size,0,none⟩=some (.int .i64 4) by go_simp);clear k1)
         go_ret;exact⟨ret_bool HV.out.symm,(kept_alloc _ _).trans K1.out⟩
       · have HV:=lH (show holdsT s (o,x,y)=false by rw[holdsT_eq,if_neg h1,if_neg h2,if_neg h3,if_neg h4]);have e1:(o==1)=false:=by simpa using h1
         have e2:(o==2)=false:=by simpa using h2
         have e3:(o==3)=false:=by simpa using h3
         have e4:(o==4)=false:=by simpa using h4
         clear hv hh hq h1 h2 h3 h4;go_enter Tryz.func167,Tryz.ntmps167;go_wp2_with (go_at_call 185;refine(HG.out _ (kept_alloc _ _)).mono ?_;rintro e w1 ⟨rfl,k1⟩;have K1:=lH k1;have c0:=cell_later k1 (show (w.alloc (.cells #[.int .i64 o,.string x,.string y] 129)).cell? ⟨w.heap.size,0,none⟩=some (.int .i64 o) by go_simp);clear k1)
         go_ret;exact⟨ret_bool HV.out.symm,(kept_alloc _ _).trans K1.out⟩
def matchT (l:TL) (s:PL):Bool:=l.all (holdsT s)
theorem match_cons (t:Int×ByteArray×ByteArray) (r:TL) (s:PL):matchT (t::r) s=(holdsT s t&&matchT r s):=rfl
theorem match_any (a a':Option Addr) (len cap len' cap':Nat) (l:TL) (s:PL) (w:World) (hr:RowAt TermLay w a len l) (hr':RowAt PairLay w a' len' s) :
 Calls Tryz.prog 143 #[.slice a len cap,.slice a' len' cap'] w fun e w'=>e=.returned (.bool (matchT l s))∧Kept w w':=by
 have hl:=hr.1;have hm:=hr.2.1;unfold maxLen at hm;rcases hr.form with h0 | ⟨b,off,rfl⟩
 · subst h0;have HE:=lH (show matchT l s=true by rw[List.eq_nil_of_length_eq_zero hl];rfl);clear hr hl hr';go_enter Tryz.func143,Tryz.ntmps143;go_wp2;refine wp_loop_rounds 1 ?_;rw[rounds_succ];go_wp2;go_ret;exact⟨ret_bool HE.out.symm,Kept.refl _⟩
 · have HR:=lH hr;have HR':=lH hr';have HL:=lH hl;clear hr hl hr';go_enter Tryz.func143,Tryz.ntmps143;go_wp2;go_loopw [9] (fun i wr=>∃k:Nat,k≤len∧i=.int .i64 k∧matchT (l.drop k) s=matchT l s∧Kept w wr) (fun i _=>len-(intOf i).toNat)
   case atStart=>exact⟨0,Nat.zero_le _,rfl,rfl,Kept.refl _⟩
   case round =>
    obtain⟨k,hk,rfl,hrest,hK⟩:=hrel;by_cases hlt:k<len
    · obtain⟨o,x,y,hx,hd,hb,ho,hz,hz2,c1,c2,c3⟩:=(HR.out.kept hK).term hlt;have HK:=lH hK;have HT:=lH (hrest.symm.trans ((congrArg (fun z=>matchT z s) hd).trans (match_cons _ _ _)));clear hK hrest hx hd;by_cases n:holdsT s (o,x,y)=true
      · have N:=lH n;go_wp2_with (go_at_call 167;refine(holds_any o x y a' len' cap' s _ ((HR'.out.kept HK.out).kept (kept_alloc _ _))).mono ?_;rintro e w1 ⟨rfl,k1⟩;have K1:=lH k1;clear k1)
        go_roundw
        case rel=>exact⟨k+1,by omega,by go_num,(HT.out.trans (by rw[N.out];exact Bool.true_and _)).symm,HK.out.trans ((kept_alloc _ _).trans K1.out)⟩
        case measure=>simp[intOf];omega
      · have n:holdsT s (o,x,y)=false:=by simpa using n
        have N:=lH n;go_wp2_with (go_at_call 167;refine(holds_any o x y a' len' cap' s _ ((HR'.out.kept HK.out).kept (kept_alloc _ _))).mono ?_;rintro e w1 ⟨rfl,k1⟩;have K1:=lH k1;clear k1)
        go_ret;exact⟨ret_bool (HT.out.trans (by rw[N.out];exact Bool.false_and _)).symm,HK.out.trans ((kept_alloc _ _).trans K1.out)⟩
    · have HK:=lH hK;have HS:=lH (hrest.symm.trans (congrArg (fun z=>matchT z s) (drop_end (by rw[HL.out];exact hlt))));clear hK hrest;go_wp2;go_ret;exact⟨ret_bool (HS.out.trans rfl).symm,HK.out⟩
abbrev NT:=ByteArray×ByteArray×Bool
abbrev NL:=List NT
abbrev NV (x y:ByteArray) (b:Bool):Value:=.agg #[.string x,.string y,.bool b]
theorem one_ssb (x y:ByteArray) (b:Bool) (u:Value) (h:u ∈ [Value.string x,Value.string y,Value.bool b]):u.oneCell'=true:=by
 have e:u=Value.string x∨u=Value.string y∨u=Value.bool b:=by simpa using h
 rcases e with e | e | e<;>rw[e]<;>rfl
def TaLay:Lay NT:={ m:=3,cs:=fun x=>[.string x.1,.string x.2.1,.bool x.2.2],fine:=fun x=>x.1.size≤maxLen∧x.2.1.size≤maxLen,len:=fun _=>rfl,one:=fun x=>one_ssb x.1 x.2.1 x.2.2,pos:=by decide }
theorem RowAt.tri {w:World} {b off len:Nat} {l:NL} {k:Nat} (h:RowAt TaLay w (some ⟨b,off,none⟩) len l) (hk:k<len) :
 ∃(x y:ByteArray) (m:Bool),l[k]?=some (x,y,m)∧l.drop k=(x,y,m)::l.drop (k+1)∧b<w.heap.size∧x.size≤maxLen∧y.size≤maxLen ∧
  w.cell? ⟨b,off+k*3,none⟩=some (.string x)∧w.cell? ⟨b,off+k*3+1,none⟩=some (.string y)∧w.cell? ⟨b,off+k*3+2,none⟩=some (.bool m):=by
 obtain⟨⟨x,y,m⟩,h1,h2,h3,h4,h5⟩:=h.cells hk;exact⟨x,y,m,h1,h2,h3,h4.1,h4.2,h5 0 _ rfl,h5 1 _ rfl,h5 2 _ rfl⟩
def twinN (t z:NT):Bool:=eqS z.1 t.1&&eqS z.2.1 t.2.1
def chkAF:NL→NL→Int
 | _,[]=>0
 | pre,x::t=>if (isName x.1&&isName x.2.1)=false then 3 else if pre.any (twinN x)=true then 6 else chkAF (pre++[x]) t
def chkA (l:NL):Int:=if 8<l.length then 4 else chkAF [] l
theorem chkA_name {pre:NL} {x:NT} {t:NL} (n:(isName x.1&&isName x.2.1)=false):chkAF pre (x::t)=3:=by rw[chkAF,if_pos n]
theorem chkA_twice {pre:NL} {x:NT} {t:NL} (n1:isName x.1=true) (n2:isName x.2.1=true) (b:pre.any (twinN x)=true):chkAF pre (x::t)=6:=by
 rw[chkAF,if_neg (by rw[n1,n2];decide),if_pos b]
theorem chkA_next {pre:NL} {x:NT} {t:NL} (n1:isName x.1=true) (n2:isName x.2.1=true) (b:pre.any (twinN x)=false):chkAF pre (x::t)=chkAF (pre++[x]) t:=by
 rw[chkAF,if_neg (by rw[n1,n2];decide),if_neg (by rw[b];decide)]
def isNo (s:ByteArray):Bool:=eqS s ByteArray.empty
def namedN (x:NT):Bool:=(isNo x.1||isName x.1)&&(if x.2.2=true then isNo x.2.1 else isName x.2.1)
def chkO (l:NL):Int:=if 8<l.length then 4 else if l.all namedN=true then 0 else 3
def bearN (t z:NT):Bool:=(isNo z.1||eqS z.1 t.1)&&(z.2.2||eqS z.2.1 t.2.1)
def bearsN (l:NL) (t:NT):Bool:=l.any (bearN t)
def worstN (l:NL):NL→Option NT
 | []=>none
 | t::r=>if (t.2.2&&!bearsN l t)=true then some t else worstN l r
def softN (l:NL):NL→Nat
 | []=>0
 | t::r=>(if (!t.2.2&&!bearsN l t)=true then 1 else 0)+softN l r
theorem no_iff {s:ByteArray}:isNo s=(s.toList==([]:List UInt8)):=by
 unfold isNo eqS;rw[show ByteArray.empty.toList=([]:List UInt8) from by rw[Lib.toList_data];rfl]
theorem soundV_ok (v:Value) (w:World):Calls Tryz.prog 154 #[v,.int .i64 0] w fun e w'=>e=.returned v∧w=w':=by
 go_enter Tryz.func154,Tryz.ntmps154;go_wp2;go_ret;exact⟨rfl,rfl⟩
theorem soundV_bad (v:Value) (x:Int) (w:World) (h:x≠0):Calls Tryz.prog 154 #[v,.int .i64 x] w fun e w'=>e=.panicked [perr x]∧w=w':=by
 have h3:(x != 0)=true:=by simpa using h
 clear h;go_enter Tryz.func154,Tryz.ntmps154;go_wp2;exact⟨rfl,rfl,rfl⟩
open Go.RowKit Go.Shelf
attribute [local go_sem] Oper.semAt_some
end Go.Proofs.YtmlgobiifebjkacGreat
namespace Go.Proofs.YtmlgobiifebjkacGreat
open Go.RowKit Go.Shelf
attribute [local go_sem] Oper.semAt_some
end Go.Proofs.YtmlgobiifebjkacGreat
namespace Go.Proofs.YtmlgobiifebjkacGreat
open Go.RowKit
theorem getR {v:Value} {l:PL} {n x:ByteArray} {b:Bool} {w:World} (h:Reads PairLay w v l) (hx:getT l n=x) (hb:hasS l n=b) :
 Calls Tryz.prog 185 #[v,.string n] w (Say (.tuple #[.string x,.bool b]) w):=by
 obtain⟨a,cap,rfl,_,_,hr⟩:=h;exact(get_any a _ cap l n w hr).mono fun e w' ⟨he,k⟩=>⟨by rw[he,hx,hb],k⟩
theorem matchR {v v':Value} {l:TL} {s:PL} {b:Bool} {w:World} (h:Reads TermLay w v l) (h':Reads PairLay w v' s) (hb:matchT l s=b) :
 Calls Tryz.prog 143 #[v,v'] w (Say (.bool b) w):=by
 obtain⟨a,cap,rfl,_,_,hr⟩:=h;obtain⟨a',cap',rfl,_,_,hr'⟩:=h';exact(match_any a a' _ cap _ cap' l s w hr hr').mono fun e w' ⟨he,k⟩=>⟨by rw[he,hb],k⟩
def fewP (x:ByteArray×ByteArray):Bool:=decide (x.1.size≤50)&&decide (x.2.size≤50)
def fewT (x:Int×ByteArray×ByteArray):Bool:=decide (x.2.1.size≤50)&&decide (x.2.2.size≤50)
def fewS (l:PL):Bool:=decide (l.length≤20)&&l.all fewP
def fewL (l:TL):Bool:=decide (l.length≤20)&&l.all fewT
theorem few_any (a:Option Addr) (len cap:Nat) (l:PL) (w:World) (hr:RowAt PairLay w a len l) :
 Calls Tryz.prog 26 #[.slice a len cap] w fun e w'=>e=.returned (.bool (fewS l))∧w=w':=by
 have hl:=hr.1;have hm:=hr.2.1;unfold maxLen at hm;by_cases h20:len≤20
 · have HV:=lH (show fewS l=l.all fewP by unfold fewS;rw[decide_eq_true (by omega)];rfl);rcases hr.form with h0 | ⟨b,off,rfl⟩
   · subst h0;have HE:=lH (show fewS l=true by rw[HV.out,List.eq_nil_of_length_eq_zero hl];rfl);clear hr hl;go_enter Tryz.func26,Tryz.ntmps26;go_wp2;refine wp_loop_rounds 1 ?_;rw[rounds_succ];go_wp2;go_ret;exact⟨ret_bool HE.out.symm,rfl⟩
   · have HR:=lH hr;have HL:=lH hl;clear hr hl;go_enter Tryz.func26,Tryz.ntmps26;go_wp2;go_loop [3] (fun i=>∃k:Nat,k≤len∧i=.int .i64 k∧(l.drop k).all fewP=l.all fewP) (fun i=>len-(intOf i).toNat)
     case atStart=>exact⟨0,Nat.zero_le _,rfl,rfl⟩
     case round =>
      obtain⟨k,hk,rfl,hrest⟩:=hrel;by_cases hlt:k<len
      · obtain⟨x,y,hx,hd,hb,hz,hz2,c1,c2⟩:=HR.out.pair hlt;have HT:=lH (hrest.symm.trans ((congrArg (fun z=>z.all fewP) hd).trans (all_cons _ _ _)));clear hrest hx hd;unfold maxLen at hz hz2;by_cases e:x.size≤50
        · by_cases e2:y.size≤50
          · have E:=lH (show fewP (x,y)=true by unfold fewP;rw[decide_eq_true e,decide_eq_true e2];rfl);go_wp2;go_round
            case rel=>exact⟨k+1,by omega,by go_num,(HT.out.trans (by rw[E.out];exact Bool.true_and _)).symm⟩
            case measure=>simp[intOf];omega
          · have E:=lH (show fewP (x,y)=false by unfold fewP;rw[decide_eq_false e2];exact Bool.and_false _);have e2':50<y.size:=by omega
            clear e2;go_wp2;go_ret;exact⟨ret_bool (HV.out.trans (HT.out.trans (by rw[E.out];exact Bool.false_and _))).symm,rfl⟩
        · have E:=lH (show fewP (x,y)=false by unfold fewP;rw[decide_eq_false e];exact Bool.false_and _);have e':50<x.size:=by omega
          clear e;go_wp2;go_ret;exact⟨ret_bool (HV.out.trans (HT.out.trans (by rw[E.out];exact Bool.false_and _))).symm,rfl⟩
      · have HS:=lH ((HV.out.trans hrest.symm).trans (congrArg (fun z=>z.all fewP) (drop_end (by rw[HL.out];exact hlt))));clear hrest;go_wp2;go_ret;exact⟨ret_bool (HS.out.trans rfl).symm,rfl⟩
 · have HV:=lH (show fewS l=false by unfold fewS;rw[decide_eq_false (by omega)];rfl);have h9:20<len:=by omega
   clear h20 hr hl;go_enter Tryz.func26,Tryz.ntmps26;go_wp2;go_ret;exact⟨ret_bool HV.out.symm,rfl⟩
theorem fewSel_any (a:Option Addr) (len cap:Nat) (l:TL) (w:World) (hr:RowAt TermLay w a len l) :
 Calls Tryz.prog 27 #[.slice a len cap] w fun e w'=>e=.returned (.bool (fewL l))∧w=w':=by
 have hl:=hr.1;have hm:=hr.2.1;unfold maxLen at hm;by_cases h20:len≤20
 · have HV:=lH (show fewL l=l.all fewT by unfold fewL;rw[decide_eq_true (by omega)];rfl);rcases hr.form with h0 | ⟨b,off,rfl⟩
   · subst h0;have HE:=lH (show fewL l=true by rw[HV.out,List.eq_nil_of_length_eq_zero hl];rfl);clear hr hl;go_enter Tryz.func27,Tryz.ntmps27;go_wp2;refine wp_loop_rounds 1 ?_;rw[rounds_succ];go_wp2;go_ret;exact⟨ret_bool HE.out.symm,rfl⟩
   · have HR:=lH hr;have HL:=lH hl;clear hr hl;go_enter Tryz.func27,Tryz.ntmps27;go_wp2;go_loop [3] (fun i=>∃k:Nat,k≤len∧i=.int .i64 k∧(l.drop k).all fewT=l.all fewT) (fun i=>len-(intOf i).toNat)
     case atStart=>exact⟨0,Nat.zero_le _,rfl,rfl⟩
     case round =>
      obtain⟨k,hk,rfl,hrest⟩:=hrel;by_cases hlt:k<len
      · obtain⟨o,x,y,hx,hd,hb,ho,hz,hz2,c0,c1,c2⟩:=HR.out.term hlt;have HT:=lH (hrest.symm.trans ((congrArg (fun z=>z.all fewT) hd).trans (all_cons _ _ _)));clear hrest hx hd;unfold maxLen at hz hz2;by_cases e:x.size≤50
        · by_cases e2:y.size≤50
          · have E:=lH (show fewT (o,x,y)=true by unfold fewT;rw[decide_eq_true e,decide_eq_true e2];rfl);go_wp2;go_round
            case rel=>exact⟨k+1,by omega,by go_num,(HT.out.trans (by rw[E.out];exact Bool.true_and _)).symm⟩
            case measure=>simp[intOf];omega
          · have E:=lH (show fewT (o,x,y)=false by unfold fewT;rw[decide_eq_false e2];exact Bool.and_false _);have e2':50<y.size:=by omega
            clear e2;go_wp2;go_ret;exact⟨ret_bool (HV.out.trans (HT.out.trans (by rw[E.out];exact Bool.false_and _))).symm,rfl⟩
        · have E:=lH (show fewT (o,x,y)=false by unfold fewT;rw[decide_eq_false e];exact Bool.false_and _);have e':50<x.size:=by omega
          clear e;go_wp2;go_ret;exact⟨ret_bool (HV.out.trans (HT.out.trans (by rw[E.out];exact Bool.false_and _))).symm,rfl⟩
      · have HS:=lH ((HV.out.trans hrest.symm).trans (congrArg (fun z=>z.all fewT) (drop_end (by rw[HL.out];exact hlt))));clear hrest;go_wp2;go_ret;exact⟨ret_bool (HS.out.trans rfl).symm,rfl⟩
 · have HV:=lH (show fewL l=false by unfold fewL;rw[decide_eq_false (by omega)];rfl);have h9:20<len:=by omega
   clear h20 hr hl;go_enter Tryz.func27,Tryz.ntmps27;go_wp2;go_ret;exact⟨ret_bool HV.out.symm,rfl⟩
theorem refCheckSet_any (a:Option Addr) (len cap:Nat) (l:PL) (w:World) (hr:RowAt PairLay w a len l) :
 Calls Tryz.prog 31 #[.slice a len cap] w fun e w'=>e=.returned (.int .i64 (chkS l))∧Kept w w':=by
 have hl:=hr.1;have hm:=hr.2.1;unfold maxLen at hm;by_cases h8:len≤8
 · have HV:=lH (show chkS l=chkFrom none l by unfold chkS;rw[if_neg (by omega)]);rcases hr.form with h0 | ⟨b,off,rfl⟩
   · subst h0;have HE:=lH (show chkS l=0 by rw[HV.out];rw[List.eq_nil_of_length_eq_zero hl];rfl);clear hr hl;go_enter Tryz.func31,Tryz.ntmps31;go_wp2;refine wp_loop_rounds 1 ?_;rw[rounds_succ];go_wp2;go_ret;exact⟨ret_i64 HE.out.symm,Kept.refl _⟩
   · have HR:=lH hr;have HL:=lH hl;clear hr hl;go_enter Tryz.func31,Tryz.ntmps31;go_wp2;go_loopw [3] (fun i wr=>∃k:Nat,k≤len∧i=.int .i64 k∧chkFrom (prevP l k) (l.drop k)=chkFrom none l∧Kept w wr) (fun i _=>len-(intOf i).toNat)
     case atStart=>exact⟨0,Nat.zero_le _,rfl,rfl,Kept.refl _⟩
     case round =>
      obtain⟨k,hk,rfl,hrest,hK⟩:=hrel;by_cases hlt:k<len
      · obtain⟨x,y,hx,hd,hb,hz,hz2,c1,c2⟩:=(HR.out.kept hK).pair hlt;have HX:=lH hx;have HK:=lH hK;have HT:=lH (hrest.symm.trans (congrArg (chkFrom (prevP l k)) hd));have HS:=lH (HV.out.trans HT.out);clear hK hrest hx hd;by_cases n1:isName x=true
        · by_cases n2:isName y=true
          · have N1:=lH n1;have N2:=lH n2;by_cases h0:k=0
            · have hd:decide (0<k)=false:=by subst h0;decide
              have HP:=lH (behind_zero (l:=l) h0 x);clear h0;go_wp2_with (go_at_call 29;refine(refName_any _ _ (by assumption)).mono ?_;rintro e w' ⟨rfl,rfl⟩)
              go_quiet (fail)
              go_wp2;go_roundw
              case rel=>exact⟨k+1,by omega,by go_num,by rw[prev_succ HX.out];exact(chk_next N1.out N2.out HP.out).symm.trans HT.out.symm,HK.out.trans (Kept.drewN _ _)⟩
              case measure=>simp[intOf];omega
            · have hd:decide (0<k)=true:=by simp;omega
              have g1:0≤(k:Int)-1:=by omega
              have g2:(k:Int)-1<(len:Int):=by omega
              have g3:((k:Int)-1).toNat=k-1:=by omega
              obtain⟨px,py,hpx,_,_,_,_,d1,d2⟩:=(HR.out.kept HK.out).pair (show k-1<len by omega);have HP:=lH (behind_prev (l:=l) h0 hpx x);clear hpx;by_cases n3:leS x px=true
              · have n3':(Op.bytesLess x.toList px.toList||x.toList==px.toList)=true:=n3;have N3:=lH n3;clear n3;go_wp2_with (go_at_call 29;refine(refName_any _ _ (by assumption)).mono ?_;rintro e w' ⟨rfl,rfl⟩)
                go_quiet (fail)
                go_wp2;go_ret;exact⟨ret_i64 (HS.out.trans (chk_order N1.out N2.out (HP.out.trans N3.out))).symm,HK.out.trans (Kept.drewN _ _)⟩
              · have n3:leS x px=false:=by simpa using n3
                have n3':(Op.bytesLess x.toList px.toList||x.toList==px.toList)=false:=n3;have N3:=lH n3;clear n3;go_wp2_with (go_at_call 29;refine(refName_any _ _ (by assumption)).mono ?_;rintro e w' ⟨rfl,rfl⟩)
                go_quiet (fail)
                go_wp2;go_roundw
                case rel=>exact⟨k+1,by omega,by go_num,by rw[prev_succ HX.out];exact(chk_next N1.out N2.out (HP.out.trans N3.out)).symm.trans HT.out.symm,HK.out.trans (Kept.drewN _ _)⟩
                case measure=>simp[intOf];omega
          · have n2:isName y=false:=by simpa using n2
            have N:=lH (show (isName x&&isName y)=false by rw[n2,Bool.and_false]);go_wp2_with (go_at_call 29;refine(refName_any _ _ (by assumption)).mono ?_;rintro e w' ⟨rfl,rfl⟩)
            go_ret;exact⟨ret_i64 (HS.out.trans (chk_name N.out)).symm,HK.out⟩
        · have n1:isName x=false:=by simpa using n1
          have N:=lH (show (isName x&&isName y)=false by rw[n1,Bool.false_and]);go_wp2_with (go_at_call 29;refine(refName_any x _ hz).mono ?_;rintro e w' ⟨rfl,rfl⟩)
          go_ret;exact⟨ret_i64 (HS.out.trans (chk_name N.out)).symm,HK.out⟩
      · have HK:=lH hK;have HS:=lH ((HV.out.trans hrest.symm).trans (congrArg (chkFrom (prevP l k)) (drop_end (by rw[HL.out];exact hlt))));clear hK hrest;go_wp2;go_ret;exact⟨ret_i64 (HS.out.trans rfl).symm,HK.out⟩
 · have HV:=lH (show chkS l=4 by unfold chkS;rw[if_pos (by omega)]);have h9:8<len:=by omega
   clear h8 hr hl;go_enter Tryz.func31,Tryz.ntmps31;go_wp2;go_ret;exact⟨ret_i64 HV.out.symm,Kept.refl _⟩
theorem refCheckSel_any (a:Option Addr) (len cap:Nat) (l:TL) (w:World) (hr:RowAt TermLay w a len l) :
 Calls Tryz.prog 32 #[.slice a len cap] w fun e w'=>e=.returned (.int .i64 (chkL l))∧Kept w w':=by
 have hl:=hr.1;have hm:=hr.2.1;unfold maxLen at hm;by_cases h8:len≤8
 · have HV:=lH (show chkL l=chkLF l by unfold chkL;rw[if_neg (by omega)]);rcases hr.form with h0 | ⟨b,off,rfl⟩
   · subst h0;have HE:=lH (show chkL l=0 by rw[HV.out];rw[List.eq_nil_of_length_eq_zero hl];rfl);clear hr hl;go_enter Tryz.func32,Tryz.ntmps32;go_wp2;refine wp_loop_rounds 1 ?_;rw[rounds_succ];go_wp2;go_ret;exact⟨ret_i64 HE.out.symm,Kept.refl _⟩
   · have HR:=lH hr;have HL:=lH hl;clear hr hl;go_enter Tryz.func32,Tryz.ntmps32;go_wp2;go_loopw [3] (fun i wr=>∃k:Nat,k≤len∧i=.int .i64 k∧chkLF (l.drop k)=chkLF l∧Kept w wr) (fun i _=>len-(intOf i).toNat)
     case atStart=>exact⟨0,Nat.zero_le _,rfl,rfl,Kept.refl _⟩
     case round =>
      obtain⟨k,hk,rfl,hrest,hK⟩:=hrel;by_cases hlt:k<len
      · obtain⟨o,x,y,hx,hd,hb,ho,hz,hz2,c1,c2,c3⟩:=(HR.out.kept hK).term hlt;have HK:=lH hK;have HT:=lH (hrest.symm.trans ((congrArg chkLF hd).trans (chkLF_cons _ _)));have HS:=lH (HV.out.trans HT.out);clear hK hrest hx hd;by_cases g1:o<1
        · have N:=lH (show chkT (o,x,y)=1 by rw[chkT_eq,if_neg (by omega),if_neg (by omega)]);go_wp2_with (go_at_call 29;refine(refName_any _ _ (by assumption)).mono ?_;rintro e w' ⟨rfl,rfl⟩)
          go_ret;exact⟨ret_i64 (HS.out.trans ((if_pos (by rw[N.out];decide)).trans N.out)).symm,HK.out.trans (kept_alloc _ _)⟩
        · by_cases g4:4<o
          · have g1':¬o<1:=g1;have N:=lH (show chkT (o,x,y)=1 by rw[chkT_eq,if_neg (by omega),if_neg (by omega)]);go_wp2_with (go_at_call 29;refine(refName_any _ _ (by assumption)).mono ?_;rintro e w' ⟨rfl,rfl⟩)
            go_ret;exact⟨ret_i64 (HS.out.trans ((if_pos (by rw[N.out];decide)).trans N.out)).symm,HK.out.trans (kept_alloc _ _)⟩
          · have hcase:(o=1∨o=2)∨(o=3∨o=4):=by omega
            clear g1 g4;rcases hcase with hcase | hcase
            · have hc:=hcase;by_cases n1:isName x=true
              · by_cases n2:isName y=true
                · have NN:=lH (show chkT (o,x,y)=0 by rw[chkT_eq,if_pos hc,if_pos (by rw[n1,n2];rfl)]);clear hc;rcases hcase with rfl | rfl
                  · have N:=lH (NN.out);go_wp2_with (go_at_call 29;refine(refName_any _ _ (by assumption)).mono ?_;rintro e w' ⟨rfl,rfl⟩)
                    go_roundw
                    case rel=>exact⟨k+1,by omega,by go_num,(HT.out.trans (if_neg (by rw[N.out];decide))).symm,HK.out.trans (kept_alloc _ _)⟩
                    case measure=>simp[intOf];omega
                  · have N:=lH (NN.out);go_wp2_with (go_at_call 29;refine(refName_any _ _ (by assumption)).mono ?_;rintro e w' ⟨rfl,rfl⟩)
                    go_roundw
                    case rel=>exact⟨k+1,by omega,by go_num,(HT.out.trans (if_neg (by rw[N.out];decide))).symm,HK.out.trans (kept_alloc _ _)⟩
                    case measure=>simp[intOf];omega
                · have n2:isName y=false:=by simpa using n2
                  have NN:=lH (show chkT (o,x,y)=3 by rw[chkT_eq,if_pos hc,if_neg (by rw[n2,Bool.and_false];decide)]);clear hc;rcases hcase with rfl | rfl
                  · have N:=lH (NN.out);go_wp2_with (go_at_call 29;refine(refName_any _ _ (by assumption)).mono ?_;rintro e w' ⟨rfl,rfl⟩)
                    go_ret;exact⟨ret_i64 (HS.out.trans ((if_pos (by rw[N.out];decide)).trans N.out)).symm,HK.out.trans (kept_alloc _ _)⟩
                  · have N:=lH (NN.out);go_wp2_with (go_at_call 29;refine(refName_any _ _ (by assumption)).mono ?_;rintro e w' ⟨rfl,rfl⟩)
                    go_ret;exact⟨ret_i64 (HS.out.trans ((if_pos (by rw[N.out];decide)).trans N.out)).symm,HK.out.trans (kept_alloc _ _)⟩
              · have n1:isName x=false:=by simpa using n1
                have NN:=lH (show chkT (o,x,y)=3 by rw[chkT_eq,if_pos hc,if_neg (by rw[n1,Bool.false_and];decide)]);clear hc;rcases hcase with rfl | rfl
                · have N:=lH (NN.out);go_wp2_with (go_at_call 29;refine(refName_any _ _ (by assumption)).mono ?_;rintro e w' ⟨rfl,rfl⟩)
                  go_ret;exact⟨ret_i64 (HS.out.trans ((if_pos (by rw[N.out];decide)).trans N.out)).symm,HK.out.trans (kept_alloc _ _)⟩
                · have N:=lH (NN.out);go_wp2_with (go_at_call 29;refine(refName_any _ _ (by assumption)).mono ?_;rintro e w' ⟨rfl,rfl⟩)
                  go_ret;exact⟨ret_i64 (HS.out.trans ((if_pos (by rw[N.out];decide)).trans N.out)).symm,HK.out.trans (kept_alloc _ _)⟩
            · have hc:=hcase;have hn:¬(o=1∨o=2):=by omega
              by_cases n1:isName x=true
              · by_cases n2:eqS y ByteArray.empty=true
                · have NN:=lH (show chkT (o,x,y)=0 by rw[chkT_eq,if_neg hn,if_pos hc,if_pos (by rw[n1,n2];rfl)]);have n2':(y.toList==([]:List UInt8))=true:=by unfold eqS at n2;simpa using n2
                  clear hc hn n2;rcases hcase with rfl | rfl
                  · have N:=lH (NN.out);go_wp2_with (go_at_call 29;refine(refName_any _ _ (by assumption)).mono ?_;rintro e w' ⟨rfl,rfl⟩)
                    go_roundw
                    case rel=>exact⟨k+1,by omega,by go_num,(HT.out.trans (if_neg (by rw[N.out];decide))).symm,HK.out.trans (kept_alloc _ _)⟩
                    case measure=>simp[intOf];omega
                  · have N:=lH (NN.out);go_wp2_with (go_at_call 29;refine(refName_any _ _ (by assumption)).mono ?_;rintro e w' ⟨rfl,rfl⟩)
                    go_roundw
                    case rel=>exact⟨k+1,by omega,by go_num,(HT.out.trans (if_neg (by rw[N.out];decide))).symm,HK.out.trans (kept_alloc _ _)⟩
                    case measure=>simp[intOf];omega
                · have n2:eqS y ByteArray.empty=false:=by simpa using n2
                  have NN:=lH (show chkT (o,x,y)=3 by rw[chkT_eq,if_neg hn,if_pos hc,if_neg (by rw[n2,Bool.and_false];decide)]);have n2':(y.toList==([]:List UInt8))=false:=by unfold eqS at n2;simpa using n2
                  clear hc hn n2;rcases hcase with rfl | rfl
                  · have N:=lH (NN.out);go_wp2_with (go_at_call 29;refine(refName_any _ _ (by assumption)).mono ?_;rintro e w' ⟨rfl,rfl⟩)
                    go_ret;exact⟨ret_i64 (HS.out.trans ((if_pos (by rw[N.out];decide)).trans N.out)).symm,HK.out.trans (kept_alloc _ _)⟩
                  · have N:=lH (NN.out);go_wp2_with (go_at_call 29;refine(refName_any _ _ (by assumption)).mono ?_;rintro e w' ⟨rfl,rfl⟩)
                    go_ret;exact⟨ret_i64 (HS.out.trans ((if_pos (by rw[N.out];decide)).trans N.out)).symm,HK.out.trans (kept_alloc _ _)⟩
              · have n1:isName x=false:=by simpa using n1
                have NN:=lH (show chkT (o,x,y)=3 by rw[chkT_eq,if_neg hn,if_pos hc,if_neg (by rw[n1,Bool.false_and];decide)]);clear hc hn;rcases hcase with rfl | rfl
                · have N:=lH (NN.out);go_wp2_with (go_at_call 29;refine(refName_any _ _ (by assumption)).mono ?_;rintro e w' ⟨rfl,rfl⟩)
                  go_ret;exact⟨ret_i64 (HS.out.trans ((if_pos (by rw[N.out];decide)).trans N.out)).symm,HK.out.trans (kept_alloc _ _)⟩
                · have N:=lH (NN.out);go_wp2_with (go_at_call 29;refine(refName_any _ _ (by assumption)).mono ?_;rintro e w' ⟨rfl,rfl⟩)
                  go_ret;exact⟨ret_i64 (HS.out.trans ((if_pos (by rw[N.out];decide)).trans N.out)).symm,HK.out.trans (kept_alloc _ _)⟩
      · have HK:=lH hK;have HS:=lH ((HV.out.trans hrest.symm).trans (congrArg chkLF (drop_end (by rw[HL.out];exact hlt))));clear hK hrest;go_wp2;go_ret;exact⟨ret_i64 (HS.out.trans rfl).symm,HK.out⟩
 · have HV:=lH (show chkL l=4 by unfold chkL;rw[if_pos (by omega)]);have h9:8<len:=by omega
   clear h8 hr hl;go_enter Tryz.func32,Tryz.ntmps32;go_wp2;go_ret;exact⟨ret_i64 HV.out.symm,Kept.refl _⟩
theorem refInfoP:(Tryz.prog.info? 133).map (fun i=>(i.zero,i.size,i.bytes))=some (some (.agg #[.string ByteArray.empty,.string ByteArray.empty]),2,32):=by kernel_rfl
theorem of_own (a:Option Addr) (len cap:Nat) (l:PL) (w:World) (hr:RowAt PairLay w a len l) (hlen:len≤1000000) :
 Calls Tryz.prog 35 #[.slice a len cap] w (fun e w'=>∃x,e=.returned x∧Own PairLay 133 w' w.heap.size x l∧Kept w w'):=by
 have hl:=hr.1;obtain⟨i0,hi,hz0,hz1,hz2'⟩:=info_parts refInfoP;rcases hr.form with h0 | ⟨b,off,rfl⟩
 · subst h0;have hl0:l=[]:=List.eq_nil_of_length_eq_zero hl;subst hl0;clear hr hl hi hz0 hz1 hz2';go_enter Tryz.func35,Tryz.ntmps35;go_wp2;refine wp_loop_rounds 1 ?_;rw[rounds_succ];go_wp2;go_ret;exact⟨_,rfl,Own.nil _ _ _,Kept.refl _⟩
 · have HR:=lH hr;have HL:=lH hl;clear hr hl;go_enter Tryz.func35,Tryz.ntmps35;go_wp2;go_loopw [3,4] (fun v i wr=>∃k:Nat,k≤len∧i=.int .i64 k∧Own PairLay 133 wr w.heap.size v (l.take k)∧Below w.heap.size w wr) (fun _ i _=>len-(intOf i).toNat)
   case atStart=>exact⟨0,Nat.zero_le _,rfl,Own.nil _ _ _,Below.refl _ _⟩
   case round =>
    obtain⟨k,hk,rfl,ho,hB⟩:=hrel;have HO:=lH ho;have HB:=lH hB;have HT:=lH (show (l.take k).length=k by rw[List.length_take,HL.out];omega);have HOWN:=lH (show wr.ownsRow w.heap.size 133 2 u3 k (rowCells PairLay (l.take k)) by have:=HO.out.1;rw[HT.out] at this;exact this);by_cases hlt:k<len
    · obtain⟨x,y,hx,hd,hb,hz,hz2,c1,c2⟩:=(HR.out.kept hB).pair hlt;have HX:=lH hx;have hbw:b<w.heap.size:=by obtain⟨z,_,_,h,_⟩:=HR.out.cells hlt;exact h
      have hbase:w.heap.size≤wr.heap.size:=hB.size;have HNE:=lH (show u3.ownBlock≠some b by
       intro e;have:=(HOWN.out.lt b e).1;omega)
      have HBASE:=lH (show w.heap.size≤(wr.alloc (.cells #[.string x,.string y] 133)).drew.heap.size by simp;omega);have HBD:=lH (show Below w.heap.size w ((wr.alloc (.cells #[.string x,.string y] 133)).drew) from HB.out.trans (Below.mono ((kept_alloc wr _).trans (Kept.drewN _ 1)) hbase));have hk1:(k:Int)<(len:Int):=by omega
      have HFK:=lH (show PairLay.fine (x,y) from⟨hz,hz2⟩);clear ho hB hx hd hz hz2;go_wp2_with fail
      go_region_held3 (fun W=>W.cell? ⟨b,off+k*2,none⟩=some (.string x)∧W.cell? ⟨b,off+k*2+1,none⟩=some (.string y))
       (first
         | go_keep
         | (go_split_ands
            refine⟨?_,?_⟩
            · (refine(hgrow.cell_far ⟨b,off+k*2,none⟩ (by simp;omega) (Ne.symm HNE.out)).trans ?_;assumption)
            · (refine(hgrow.cell_far ⟨b,off+k*2+1,none⟩ (by simp;omega) (Ne.symm HNE.out)).trans ?_;assumption)))
       ((refine step_append_lies _ (by rfl) _ _ _ (by rfl) w.heap.size 133 i0 _ 2 32 Tryz.underlying41 hi hz0 hz1 hz2' rfl (by decide) u3 k (rowCells PairLay (l.take k)) (by rfl) ((HOWN.out.alloc _).drew)
          ⟨wr.heap.size,0,none⟩ 1 1 [.string x,.string y] (by rfl) (by rfl) (World.news_of_block (cs:=#[.string x,.string y]) (t:=133) (fr:=(0,0)) (heap_alloc_new wr _)) (one_ss x y)
          (by decide) (by unfold maxLen;omega) (by omega) (by simp;omega) (wr.heap.size+1) (by simp) ?_;intro gg cap1 w1 hown1 hgrow hat hlt1))
      all_goals
       go_wp2;go_roundw
       case rel=>exact⟨k+1,by omega,by go_num,by rw[take_snoc HX.out];exact Own.snoc hown1 (by rw[HT.out]) HO.out.2 HFK.out,HBD.out.grown hgrow HBASE.out (fun j hj=>(HOWN.out.lt j hj).1)⟩
       case measure=>simp[intOf];omega
    · have HK:=lH (show l.take k=l by rw[List.take_of_length_le (by rw[HL.out];omega)]);clear ho hB;go_wp2;go_ret;exact⟨_,rfl,by have h:=HO.out;rw[HK.out] at h;exact h,HB.out⟩
theorem refInfoT:(Tryz.prog.info? 134).map (fun i=>(i.zero,i.size,i.bytes))=some (some (.agg #[.int .i64 0,.string ByteArray.empty,.string ByteArray.empty]),3,40):=by kernel_rfl
theorem ofSel_own (a:Option Addr) (len cap:Nat) (l:TL) (w:World) (hr:RowAt TermLay w a len l) (hlen:len≤1000000) :
 Calls Tryz.prog 36 #[.slice a len cap] w (fun e w'=>∃x,e=.returned x∧Own TermLay 134 w' w.heap.size x l∧Kept w w'):=by
 have hl:=hr.1;obtain⟨i0,hi,hz0,hz1,hz2'⟩:=info_parts refInfoT;rcases hr.form with h0 | ⟨b,off,rfl⟩
 · subst h0;have hl0:l=[]:=List.eq_nil_of_length_eq_zero hl;subst hl0;clear hr hl hi hz0 hz1 hz2';go_enter Tryz.func36,Tryz.ntmps36;go_wp2;refine wp_loop_rounds 1 ?_;rw[rounds_succ];go_wp2;go_ret;exact⟨_,rfl,Own.nil _ _ _,Kept.refl _⟩
 · have HR:=lH hr;have HL:=lH hl;clear hr hl;go_enter Tryz.func36,Tryz.ntmps36;go_wp2;go_loopw [3,4] (fun v i wr=>∃k:Nat,k≤len∧i=.int .i64 k∧Own TermLay 134 wr w.heap.size v (l.take k)∧Below w.heap.size w wr) (fun _ i _=>len-(intOf i).toNat)
   case atStart=>exact⟨0,Nat.zero_le _,rfl,Own.nil _ _ _,Below.refl _ _⟩
   case round =>
    obtain⟨k,hk,rfl,ho,hB⟩:=hrel;have HO:=lH ho;have HB:=lH hB;have HT:=lH (show (l.take k).length=k by rw[List.length_take,HL.out];omega);have HOWN:=lH (show wr.ownsRow w.heap.size 134 3 u3 k (rowCells TermLay (l.take k)) by have:=HO.out.1;rw[HT.out] at this;exact this);by_cases hlt:k<len
    · obtain⟨o,x,y,hx,hd,hb,ho9,hz,hz2,c0,c1,c2⟩:=(HR.out.kept hB).term hlt;have HX:=lH hx;have hbw:b<w.heap.size:=by obtain⟨z,_,_,h,_⟩:=HR.out.cells hlt;exact h
      have hbase:w.heap.size≤wr.heap.size:=hB.size;have HNE:=lH (show u3.ownBlock≠some b by
       intro e;have:=(HOWN.out.lt b e).1;omega)
      have HBASE:=lH (show w.heap.size≤(wr.alloc (.cells #[.int .i64 o,.string x,.string y] 134)).drew.heap.size by simp;omega);have HBD:=lH (show Below w.heap.size w ((wr.alloc (.cells #[.int .i64 o,.string x,.string y] 134)).drew) from HB.out.trans (Below.mono ((kept_alloc wr _).trans (Kept.drewN _ 1)) hbase));have hk1:(k:Int)<(len:Int):=by omega
      have HFK:=lH (show TermLay.fine (o,x,y) from⟨ho9,hz,hz2⟩);clear ho hB hx hd hz hz2;go_wp2_with fail
      go_region_held3 (fun W=>W.cell? ⟨b,off+k*3,none⟩=some (.int .i64 o)∧W.cell? ⟨b,off+k*3+1,none⟩=some (.string x)∧W.cell? ⟨b,off+k*3+2,none⟩=some (.string y))
       (first
         | go_keep
         | (go_split_ands
            refine⟨?_,?_,?_⟩
            · (refine(hgrow.cell_far ⟨b,off+k*3,none⟩ (by simp;omega) (Ne.symm HNE.out)).trans ?_;assumption)
            · (refine(hgrow.cell_far ⟨b,off+k*3+1,none⟩ (by simp;omega) (Ne.symm HNE.out)).trans ?_;assumption)
            · (refine(hgrow.cell_far ⟨b,off+k*3+2,none⟩ (by simp;omega) (Ne.symm HNE.out)).trans ?_;assumption)))
       ((refine step_append_lies _ (by rfl) _ _ _ (by rfl) w.heap.size 134 i0 _ 3 40 Tryz.underlying42 hi hz0 hz1 hz2' rfl (by decide) u3 k (rowCells TermLay (l.take k)) (by rfl) ((HOWN.out.alloc _).drew)
          ⟨wr.heap.size,0,none⟩ 1 1 [.int .i64 o,.string x,.string y] (by rfl) (by rfl) (World.news_of_block (cs:=#[.int .i64 o,.string x,.string y]) (t:=134) (fr:=(0,0)) (heap_alloc_new wr _)) (one_iss o x y)
          (by decide) (by unfold maxLen;omega) (by omega) (by simp;omega) (wr.heap.size+1) (by simp) ?_;intro gg cap1 w1 hown1 hgrow hat hlt1))
      all_goals
       go_wp2;go_roundw
       case rel=>exact⟨k+1,by omega,by go_num,by rw[take_snoc HX.out];exact Own.snoc hown1 (by rw[HT.out]) HO.out.2 HFK.out,HBD.out.grown hgrow HBASE.out (fun j hj=>(HOWN.out.lt j hj).1)⟩
       case measure=>simp[intOf];omega
    · have HK:=lH (show l.take k=l by rw[List.take_of_length_le (by rw[HL.out];omega)]);clear ho hB;go_wp2;go_ret;exact⟨_,rfl,by have h:=HO.out;rw[HK.out] at h;exact h,HB.out⟩
theorem fewR {v:Value} {l:PL} {w:World} (h:Reads PairLay w v l):Calls Tryz.prog 26 #[v] w fun e w'=>e=.returned (.bool (fewS l))∧w=w':=by
 obtain⟨a,cap,rfl,_,_,hr⟩:=h;exact few_any a _ cap l w hr
theorem fewSelR {v:Value} {l:TL} {w:World} (h:Reads TermLay w v l):Calls Tryz.prog 27 #[v] w fun e w'=>e=.returned (.bool (fewL l))∧w=w':=by
 obtain⟨a,cap,rfl,_,_,hr⟩:=h;exact fewSel_any a _ cap l w hr
theorem refCheckR {v:Value} {l:PL} {c:Int} {w:World} (h:Reads PairLay w v l) (hc:chkS l=c):Calls Tryz.prog 31 #[v] w (Say (.int .i64 c) w):=by
 obtain⟨a,cap,rfl,_,_,hr⟩:=h;exact(refCheckSet_any a _ cap l w hr).mono fun e w' ⟨he,k⟩=>⟨by rw[he,hc],k⟩
theorem refCheckSelR {v:Value} {l:TL} {c:Int} {w:World} (h:Reads TermLay w v l) (hc:chkL l=c):Calls Tryz.prog 32 #[v] w (Say (.int .i64 c) w):=by
 obtain⟨a,cap,rfl,_,_,hr⟩:=h;exact(refCheckSel_any a _ cap l w hr).mono fun e w' ⟨he,k⟩=>⟨by rw[he,hc],k⟩
open Go.RowKit Go.Sort
def Grw (w w':World):Prop:=∃q os,w'=grow (w.drewN q) os
theorem Grw.refl (w:World):Grw w w:=⟨0,#[],by rw[grow_empty];rfl⟩
theorem Grw.grown {w W:World} (h:Grw w W) (n:Nat) (os:Array Obj):Grw w (grow (W.drewN n) os):=by
 obtain⟨q,os0,rfl⟩:=h;exact⟨q+n,os0++os,by show grow (grow ((w.drewN q).drewN n) os0) os=_;rw[grow_grow,World.drewN_drewN]⟩
theorem Grw.trans {a b c:World} (h:Grw a b) (k:Grw b c):Grw a c:=by
 obtain⟨q,os,rfl⟩:=k;exact h.grown q os
theorem Grw.alloc (w:World) (o:Obj):Grw w (w.alloc o):=⟨0,#[o],alloc_eq_grow _ _⟩
theorem Grw.drewN (w:World) (n:Nat):Grw w (w.drewN n):=⟨n,#[],by rw[grow_empty]⟩
theorem kept_grow (w:World) (n:Nat) (os:Array Obj):Kept w (grow (w.drewN n) os):=Go.Lib.below_grow w.heap.size w (Nat.le_refl _) n os
theorem Grw.kept {w w':World} (h:Grw w w'):Kept w w':=by
 obtain⟨q,os,rfl⟩:=h;exact kept_grow w q os
def TriAt (w:World) (c:Nat) (t:NT):Prop:=w.cell? ⟨c,0,none⟩=some (.string t.1)∧w.cell? ⟨c,1,none⟩=some (.string t.2.1)∧w.cell? ⟨c,2,none⟩=some (.bool t.2.2)
theorem TriAt.kept {w w':World} {c:Nat} {t:NT} (h:TriAt w c t) (k:Kept w w'):TriAt w' c t:=⟨cell_later k h.1,cell_later k h.2.1,cell_later k h.2.2⟩
theorem TriAt.new (w:World) (x y:ByteArray) (m:Bool) (T:TypeId):TriAt (w.alloc (.cells #[.string x,.string y,.bool m] T)) w.heap.size (x,y,m):=by
 have hh:=w.alloc_heap_new (.cells #[.string x,.string y,.bool m] T);exact⟨by rw[Lib.cell_of_heap hh];rfl,by rw[Lib.cell_of_heap hh];rfl,by rw[Lib.cell_of_heap hh];rfl⟩
theorem bear_any (t1 t2:ByteArray) (t3:Bool) (x y:ByteArray) (m:Bool) (w:World) :
 Calls Tryz.prog 80 #[NV x y m,NV t1 t2 t3] w fun e w'=>e=.returned (.bool (bearN (t1,t2,t3) (x,y,m)))∧Grw w w':=by
 obtain⟨q0,hq0⟩:∃q,(x.toList==([]:List UInt8))=q:=⟨_,rfl⟩
 obtain⟨q1,hq1⟩:∃q,(x.toList==t1.toList)=q:=⟨_,rfl⟩
 obtain⟨q2,hq2⟩:∃q,(y.toList==t2.toList)=q:=⟨_,rfl⟩
 have HV:=lH (show bearN (t1,t2,t3) (x,y,m)=((q0||q1)&&(m||q2)) by unfold bearN;rw[no_iff,hq0];unfold eqS;rw[hq1,hq2])
 cases q0<;>cases q1<;>cases m<;>cases q2 <;>
 (go_enter Tryz.func80,Tryz.ntmps80
  go_wp2;go_ret;exact⟨ret_bool HV.out.symm,(Grw.alloc _ _).trans (Grw.alloc _ _)⟩)
theorem bears1_any (c:Nat) (t:NT) (x y:ByteArray) (m:Bool) (w:World) (h:TriAt w c t) :
 Calls Tryz.prog 79 #[NV x y m,.pointer (some ⟨c,0,none⟩)] w fun e w'=>e=.returned (.bool (bearN t (x,y,m)))∧Grw w w':=by
 obtain⟨t1,t2,t3⟩:=t;obtain⟨h1,h2,h3⟩:=h;dsimp only at h1 h2 h3;have g1:=cell_later (kept_alloc w (.cells #[.string x,.string y,.bool m] 131)) h1;have g2:=cell_later (kept_alloc w (.cells #[.string x,.string y,.bool m] 131)) h2;have g3:=cell_later (kept_alloc w (.cells #[.string x,.string y,.bool m] 131)) h3;go_enter Tryz.func79,Tryz.ntmps79;go_wp2_with (go_at_call 80;refine(bear_any t1 t2 t3 x y m _).mono ?_;rintro e w1 ⟨rfl,k1⟩;have K1:=lH k1;clear k1)
 go_ret;exact⟨rfl,(Grw.alloc _ _).trans K1.out⟩
theorem indexO_any (a:Option Addr) (len cap:Nat) (l:NL) (c:Nat) (t:NT) (w:World) (hr:RowAt TaLay w a len l) (ht:TriAt w c t) :
 Calls Tryz.prog 119 #[.slice a len cap,.func (.func 79) #[] #[.pointer (some ⟨c,0,none⟩)]] w fun e w'=>∃i:Int,e=.returned (.int .i64 i)∧decide (0≤i)=l.any (bearN t)∧Grw w w':=by
 have hl:=hr.1;have hm:=hr.2.1;unfold maxLen at hm;rcases hr.form with h0 | ⟨b,off,rfl⟩
 · subst h0;have HE:=lH (show l.any (bearN t)=false by rw[List.eq_nil_of_length_eq_zero hl];rfl);clear hr hl ht;go_enter Tryz.func119,Tryz.ntmps119;go_wp2;refine wp_loop_rounds 1 ?_;rw[rounds_succ];go_wp2;go_ret;exact⟨-1,rfl,HE.out.symm,Grw.refl _⟩
 · have HR:=lH hr;have HL:=lH hl;have HT:=lH ht;clear hr hl ht;go_enter Tryz.func119,Tryz.ntmps119;go_wp2;go_loopw [8] (fun i wr=>∃k:Nat,k≤len∧i=.int .i64 k∧(l.drop k).any (bearN t)=l.any (bearN t)∧Grw w wr) (fun i _=>len-(intOf i).toNat)
   case atStart=>exact⟨0,Nat.zero_le _,rfl,rfl,Grw.refl _⟩
   case round =>
    obtain⟨k,hk,rfl,hrest,hG⟩:=hrel;have hK:=hG.kept;have HG:=lH hG;by_cases hlt:k<len
    · obtain⟨x,y,m,hx,hd,hb,hz,hz2,c1,c2,c3⟩:=(HR.out.kept hK).tri hlt;have HK:=lH hK;have HS:=lH (hrest.symm.trans ((congrArg (fun z=>z.any (bearN t)) hd).trans (List.any_cons)));obtain⟨q,hq⟩:∃q,bearN t (x,y,m)=q:=⟨_,rfl⟩
      rw[hq] at HS;have HQ:=lH hq;have HC:=lH (HT.out.kept hK);clear hK hrest hx hd hG hq
      cases q with
      | true =>
       go_wp2_with (go_at_call 79;refine(bears1_any c t x y m _ HC.out).mono ?_;rw[HQ.out];rintro e w1 ⟨rfl,k1⟩;have K1:=lH k1;clear k1)
       go_ret;exact⟨(k:Int),rfl,by rw[HS.out];simp,HG.out.trans K1.out⟩
      | false =>
       go_wp2_with (go_at_call 79;refine(bears1_any c t x y m _ HC.out).mono ?_;rw[HQ.out];rintro e w1 ⟨rfl,k1⟩;have K1:=lH k1;clear k1)
       go_roundw
       case rel=>exact⟨k+1,by omega,by go_num,(HS.out.trans (Bool.false_or _)).symm,HG.out.trans K1.out⟩
       case measure=>simp[intOf];omega
    · have HS:=lH (hrest.symm.trans (congrArg (fun z=>z.any (bearN t)) (drop_end (by rw[HL.out];exact hlt))));clear hK hrest hG;go_wp2;go_ret;exact⟨-1,rfl,by rw[HS.out];rfl,HG.out⟩
theorem containsO_any (a:Option Addr) (len cap:Nat) (l:NL) (c:Nat) (t:NT) (w:World) (hr:RowAt TaLay w a len l) (ht:TriAt w c t) :
 Calls Tryz.prog 78 #[.slice a len cap,.func (.func 79) #[] #[.pointer (some ⟨c,0,none⟩)]] w fun e w'=>e=.returned (.bool (l.any (bearN t)))∧Grw w w':=by
 have HI:=lH (indexO_any a len cap l c t w hr ht);clear hr ht;go_enter Tryz.func78,Tryz.ntmps78;go_wp2_with fail
 refine HI.out.mono ?_;rintro e w1 ⟨i,rfl,hi,k1⟩;have K1:=lH k1;have HB:=lH hi;clear hi k1;go_wp2;go_ret;exact⟨ret_bool HB.out,K1.out⟩
theorem bears_any (a:Option Addr) (len cap:Nat) (l:NL) (t1 t2:ByteArray) (t3:Bool) (w:World) (hr:RowAt TaLay w a len l) :
 Calls Tryz.prog 43 #[.slice a len cap,NV t1 t2 t3] w fun e w'=>e=.returned (.bool (l.any (bearN (t1,t2,t3))))∧Grw w w':=by
 have hmf:=hmfL (P:=Tryz.prog);have HI:=lH (containsO_any a len cap l w.heap.size (t1,t2,t3) (w.alloc (.cells #[.string t1,.string t2,.bool t3] 96)) (hr.kept (kept_alloc _ _)) (TriAt.new w t1 t2 t3 _));clear hr;go_enter Tryz.func43,Tryz.ntmps43;go_wp2_with fail
 refine HI.out.mono ?_;rintro e w1 ⟨rfl,k1⟩;have K1:=lH k1;clear k1;go_wp2;go_ret;exact⟨rfl,(Grw.alloc _ _).trans K1.out⟩
theorem all_named {x:NT} {t:NL}:(x::t).all namedN=(namedN x&&t.all namedN):=rfl
open Go.RowKit Go.Shelf
attribute [local go_sem] Oper.semAt_some
end Go.Proofs.YtmlgobiifebjkacGreat
namespace Go.Proofs.YtmlgobiifebjkacGreat
open Go.RowKit Go.Shelf
attribute [local go_sem] Oper.semAt_some
end Go.Proofs.YtmlgobiifebjkacGreat
namespace Go.Proofs.YtmlgobiifebjkacGreat
open Go.RowKit Go.Sort
theorem worst_cons {l:NL} {t:NT} {r:NL}:worstN l (t::r)=if (t.2.2&&!bearsN l t)=true then some t else worstN l r:=rfl
theorem soft_cons {l:NL} {t:NT} {r:NL}:softN l (t::r)=(if (!t.2.2&&!bearsN l t)=true then 1 else 0)+softN l r:=rfl
theorem tri_free (w:World) (x y:ByteArray) (m:Bool) (T:TypeId):(w.alloc (.cells #[.string x,.string y,.bool m] T)).frozen? ⟨w.heap.size,0,none⟩=false∧(w.alloc (.cells #[.string x,.string y,.bool m] T)).frozen? ⟨w.heap.size,1,none⟩=false∧(w.alloc (.cells #[.string x,.string y,.bool m] T)).frozen? ⟨w.heap.size,2,none⟩=false:=by
 refine⟨?_,?_,?_⟩<;>go_simp
theorem free_later {w w':World} {c i:Nat} (k:Kept w w') (hc:c<w.heap.size) (h:w.frozen? ⟨c,i,none⟩=false):w'.frozen? ⟨c,i,none⟩=false:=(k.frozen (p:=⟨c,i,none⟩) hc).trans h
theorem set_three (w:World) (c:Nat) (u0 u1 u2:Value) {o0 o1 o2:Value} (h0:w.cell? ⟨c,0,none⟩=some o0) (h1:w.cell? ⟨c,1,none⟩=some o1) (h2:w.cell? ⟨c,2,none⟩=some o2) :
 (w.setCell ⟨c,0,none⟩ u0).cell? ⟨c,0,none⟩=some u0∧((w.setCell ⟨c,0,none⟩ u0).setCell ⟨c,1,none⟩ u1).cell? ⟨c,1,none⟩=some u1∧(((w.setCell ⟨c,0,none⟩ u0).setCell ⟨c,1,none⟩ u1).setCell ⟨c,2,none⟩ u2).cell? ⟨c,2,none⟩=some u2:=by
 refine⟨World.cell?_setCell_same' _ _ _ (by rw[h0];rfl),World.cell?_setCell_same' _ _ _ ?_,World.cell?_setCell_same' _ _ _ ?_⟩
 · rw[World.cell?_setCell_other _ _ _ _ (by intro e;injection e with e1 e2;cases e2),h1];rfl
 · rw[World.cell?_setCell_other _ _ _ _ (by intro e;injection e with e1 e2;cases e2),World.cell?_setCell_other _ _ _ _ (by intro e;injection e with e1 e2;cases e2),h2];rfl
def wT (o:Option NT):NT:=o.getD (ByteArray.empty,ByteArray.empty,false)
theorem worst_any (a a':Option Addr) (len cap len' cap':Nat) (l t:NL) (w:World) (hr:RowAt TaLay w a len l) (hr':RowAt TaLay w a' len' t) :
 Calls Tryz.prog 144 #[.slice a len cap,.slice a' len' cap'] w fun e w'=>e=.returned (.tuple #[NV (wT (worstN l t)).1 (wT (worstN l t)).2.1 (wT (worstN l t)).2.2,.bool (worstN l t).isSome])∧Kept w w':=by
 have hl:=hr'.1;have hm:=hr'.2.1;unfold maxLen at hm;rcases hr'.form with h0 | ⟨b,off,rfl⟩
 · subst h0;have HE:=lH (show worstN l t=none by rw[List.eq_nil_of_length_eq_zero hl];rfl);rw[HE.out];clear hr hr' hl;go_enter Tryz.func144,Tryz.ntmps144;go_wp2;refine wp_loop_rounds 1 ?_;rw[rounds_succ];go_wp2;(try simp only[Exit.inBlock,Exit.then])
   refine bodyPost_ret (v:=.tuple #[NV ⟨#[]⟩ ⟨#[]⟩ false,.bool false]) (by simp[results,Tryz.results144,go_sem]) rfl ?_;exact⟨rfl,kept_alloc _ _⟩
 · have HR:=lH hr;have HR':=lH hr';have HL:=lH hl;clear hr hr' hl;go_enter Tryz.func144,Tryz.ntmps144;go_wp2;go_loopw [10] (fun i wr=>∃k:Nat,k≤len'∧i=.int .i64 k∧worstN l (t.drop k)=worstN l t∧Kept (w.alloc (.cells #[.string ⟨#[]⟩,.string ⟨#[]⟩,.bool false] 96)) wr) (fun i _=>len'-(intOf i).toNat)
   case atStart=>exact⟨0,Nat.zero_le _,rfl,rfl,Kept.refl _⟩
   case round =>
    obtain⟨k,hk,rfl,hrest,hK⟩:=hrel;have hKw:Kept w wr:=(kept_alloc w _).trans hK;have tn:=(TriAt.new w ⟨#[]⟩ ⟨#[]⟩ false 96).kept hK;have d1:=tn.1;have d2:=tn.2.1;have d3:=tn.2.2;dsimp only at d1 d2 d3;have hbs:w.heap.size<wr.heap.size:=by have:=hK.size;simp at this;omega
    have fr:=tri_free w ⟨#[]⟩ ⟨#[]⟩ false 96;have z1:=free_later hK (by simp) fr.1;have z2:=free_later hK (by simp) fr.2.1;have z3:=free_later hK (by simp) fr.2.2;clear tn fr;by_cases hlt:k<len'
    · obtain⟨x,y,m,hx,hd,hb,hz,hz2,c1,c2,c3⟩:=(HR'.out.kept hKw).tri hlt;have HK:=lH hKw;obtain⟨q,hq⟩:∃q,bearsN l (x,y,m)=q:=⟨_,rfl⟩
      have HS:=lH (hrest.symm.trans ((congrArg (worstN l) hd).trans (worst_cons.trans (by rw[hq]))));have HC:=lH (fun W (h:Kept w W)=>bears_any a len cap l x y m W (HR.out.kept h));rw[show l.any (bearN (x,y,m))=q from hq] at HC;have HKK:=lH hK;clear hK hrest hx hd hq hKw
      cases m with
      | false =>
       go_wp2_with fail
       go_roundw
       case rel=>exact⟨k+1,by omega,by go_num,HS.out.symm,HKK.out.trans (kept_alloc _ _)⟩
       case measure=>simp[intOf];omega
      | true =>
       cases q with
       | true =>
        go_wp2_with (go_at_call 43;refine(HC.out _ (HK.out.trans (kept_alloc _ _))).mono ?_;rintro e w1 ⟨rfl,k1⟩;have K1:=lH k1.kept;clear k1)
        go_roundw
        case rel=>exact⟨k+1,by omega,by go_num,HS.out.symm,HKK.out.trans ((kept_alloc _ _).trans K1.out)⟩
        case measure=>simp[intOf];omega
       | false =>
        have HW:=lH (show worstN l t=some (x,y,true) from HS.out);have e1:=cell_later (kept_alloc wr (.cells #[.string x,.string y,.bool true] 96)) d1;have e2:=cell_later (kept_alloc wr (.cells #[.string x,.string y,.bool true] 96)) d2;have e3:=cell_later (kept_alloc wr (.cells #[.string x,.string y,.bool true] 96)) d3;have tn:=TriAt.new wr x y true 96;go_wp2_with (go_at_call 43;refine(HC.out _ (HK.out.trans (kept_alloc _ _))).mono ?_;rintro e w1 ⟨rfl,k1⟩;have K1:=lH k1.kept;have y1:=free_later (Kept.trans (kept_alloc wr _) K1.out) hbs z1;have y2:=free_later (Kept.trans (kept_alloc wr _) K1.out) hbs z2;have y3:=free_later (Kept.trans (kept_alloc wr _) K1.out) hbs z3;have f1:=cell_later K1.out e1;have f2:=cell_later K1.out e2;have f3:=cell_later K1.out e3;have g1:=cell_later K1.out tn.1;have g2:=cell_later K1.out tn.2.1;have g3:=cell_later K1.out tn.2.2;dsimp only at g1 g2 g3;clear k1)
        (try simp only[Exit.inBlock,Exit.then])
        have s3:=set_three w1 w.heap.size (.string x) (.string y) (.bool true) f1 f2 f3;refine bodyPost_ret (v:=.tuple #[NV x y true,.bool true]) (by simp[results,Tryz.results144,go_sem,s3.1,s3.2.1,s3.2.2]) rfl ?_;exact⟨by rw[HW.out];rfl,kept_cell (kept_cell (kept_cell (HK.out.trans ((kept_alloc _ _).trans K1.out)) (Nat.le_refl _) _) (Nat.le_refl _) _) (Nat.le_refl _) _⟩
    · have HKK:=lH hKw;have HS:=lH (show worstN l t=none from(hrest.symm.trans (congrArg (worstN l) (drop_end (by rw[HL.out];exact hlt)))));clear hK hrest hKw;go_wp2;(try simp only[Exit.inBlock,Exit.then])
      have s3:=set_three wr w.heap.size (.string ⟨#[]⟩) (.string ⟨#[]⟩) (.bool false) d1 d2 d3;refine bodyPost_ret (v:=.tuple #[NV ⟨#[]⟩ ⟨#[]⟩ false,.bool false]) (by simp[results,Tryz.results144,go_sem,s3.1,s3.2.1,s3.2.2]) rfl ?_;exact⟨by rw[HS.out];rfl,kept_cell (kept_cell (kept_cell HKK.out (Nat.le_refl _) _) (Nat.le_refl _) _) (Nat.le_refl _) _⟩
theorem soft_any (a a':Option Addr) (len cap len' cap':Nat) (l t:NL) (w:World) (hr:RowAt TaLay w a len l) (hr':RowAt TaLay w a' len' t) :
 Calls Tryz.prog 13 #[.slice a len cap,.slice a' len' cap'] w fun e w'=>e=.returned (.int .i64 (softN l t))∧Kept w w':=by
 have hl:=hr'.1;have hm:=hr'.2.1;unfold maxLen at hm;rcases hr'.form with h0 | ⟨b,off,rfl⟩
 · subst h0;have HE:=lH (show (softN l t:Int)=0 by rw[List.eq_nil_of_length_eq_zero hl];rfl);rw[HE.out];clear hr hr' hl;go_enter Tryz.func13,Tryz.ntmps13;go_wp2;refine wp_loop_rounds 1 ?_;rw[rounds_succ];go_wp2;go_ret;exact⟨rfl,Kept.refl _⟩
 · have HR:=lH hr;have HR':=lH hr';have HL:=lH hl;clear hr hr' hl;go_enter Tryz.func13,Tryz.ntmps13;go_wp2;go_loopw [5,10] (fun v i wr=>∃k n:Nat,k≤len'∧i=.int .i64 k∧v=.int .i64 n∧n≤k∧n+softN l (t.drop k)=softN l t∧Kept w wr) (fun _ i _=>len'-(intOf i).toNat)
   case atStart=>exact⟨0,0,Nat.zero_le _,rfl,rfl,Nat.le_refl _,by simp,Kept.refl _⟩
   case round =>
    obtain⟨k,n,hk,rfl,rfl,hn,hrest,hK⟩:=hrel;by_cases hlt:k<len'
    · obtain⟨x,y,m,hx,hd,hb,hz,hz2,c1,c2,c3⟩:=(HR'.out.kept hK).tri hlt;have HK:=lH hK;obtain⟨q,hq⟩:∃q,bearsN l (x,y,m)=q:=⟨_,rfl⟩
      have HS:=lH (show n+((if (!m&&!q)=true then 1 else 0)+softN l (t.drop (k+1)))=softN l t by rw[←hrest,hd,soft_cons,hq]);have HC:=lH (fun W (h:Kept w W)=>bears_any a len cap l x y m W (HR.out.kept h));rw[show l.any (bearN (x,y,m))=q from hq] at HC;clear hK hrest hx hd hq
      cases m with
      | true =>
       go_wp2_with fail
       go_roundw
       case rel=>exact⟨k+1,n,by omega,by go_num,rfl,by omega,by have:=HS.out;simpa using this,HK.out.trans (kept_alloc _ _)⟩
       case measure=>simp[intOf];omega
      | false =>
       cases q with
       | true =>
        go_wp2_with (go_at_call 43;refine(HC.out _ (HK.out.trans (kept_alloc _ _))).mono ?_;rintro e w1 ⟨rfl,k1⟩;have K1:=lH k1.kept;clear k1)
        go_roundw
        case rel=>exact⟨k+1,n,by omega,by go_num,rfl,by omega,by have:=HS.out;simpa using this,HK.out.trans ((kept_alloc _ _).trans K1.out)⟩
        case measure=>simp[intOf];omega
       | false =>
        go_wp2_with (go_at_call 43;refine(HC.out _ (HK.out.trans (kept_alloc _ _))).mono ?_;rintro e w1 ⟨rfl,k1⟩;have K1:=lH k1.kept;clear k1)
        go_roundw
        case rel=>exact⟨k+1,n+1,by omega,by go_num,by go_num,by omega,by have:=HS.out;simp at this;omega,HK.out.trans ((kept_alloc _ _).trans K1.out)⟩
        case measure=>simp[intOf];omega
    · have HKK:=lH hK;have HS:=lH (show softN l t=n by rw[←hrest,drop_end (by rw[HL.out];exact hlt)];rfl);clear hK hrest;go_wp2;go_ret;exact⟨by rw[HS.out];rfl,HKK.out⟩
open Go.RowKit
theorem worstR {v v':Value} {l t:NL} {x y:ByteArray} {m b:Bool} {w:World} (h:Reads TaLay w v l) (h':Reads TaLay w v' t) (hx:wT (worstN l t)=(x,y,m)) (hb:(worstN l t).isSome=b) :
 Calls Tryz.prog 144 #[v,v'] w (Say (.tuple #[NV x y m,.bool b]) w):=by
 obtain⟨a,cap,rfl,_,_,hr⟩:=h;obtain⟨a',cap',rfl,_,_,hr'⟩:=h';exact(worst_any a a' _ cap _ cap' l t w hr hr').mono fun e w' ⟨he,k⟩=>⟨by rw[he,hx,hb],k⟩
theorem softR {v v':Value} {l t:NL} {n:Nat} {w:World} (h:Reads TaLay w v l) (h':Reads TaLay w v' t) (hn:softN l t=n) :
 Calls Tryz.prog 13 #[v,v'] w (Say (.int .i64 n) w):=by
 obtain⟨a,cap,rfl,_,_,hr⟩:=h;obtain⟨a',cap',rfl,_,_,hr'⟩:=h';exact(soft_any a a' _ cap _ cap' l t w hr hr').mono fun e w' ⟨he,k⟩=>⟨by rw[he,hn],k⟩
theorem refCheckO_any (a:Option Addr) (len cap:Nat) (l:NL) (w:World) (hr:RowAt TaLay w a len l) :
 Calls Tryz.prog 33 #[.slice a len cap] w fun e w'=>e=.returned (.int .i64 (chkO l))∧Kept w w':=by
 have hl:=hr.1;have hm:=hr.2.1;unfold maxLen at hm;by_cases h8:len≤8
 · have HV:=lH (show chkO l=if l.all namedN=true then 0 else 3 by unfold chkO;rw[if_neg (by omega)]);rcases hr.form with h0 | ⟨b,off,rfl⟩
   · subst h0;have HE:=lH (show chkO l=0 by rw[HV.out];rw[List.eq_nil_of_length_eq_zero hl];rfl);clear hr hl;go_enter Tryz.func33,Tryz.ntmps33;go_wp2;refine wp_loop_rounds 1 ?_;rw[rounds_succ];go_wp2;go_ret;exact⟨ret_i64 HE.out.symm,Kept.refl _⟩
   · have HR:=lH hr;have HL:=lH hl;clear hr hl;go_enter Tryz.func33,Tryz.ntmps33;go_wp2;go_loopw [3] (fun i wr=>∃k:Nat,k≤len∧i=.int .i64 k∧(l.drop k).all namedN=l.all namedN∧Kept w wr) (fun i _=>len-(intOf i).toNat)
     case atStart=>exact⟨0,Nat.zero_le _,rfl,rfl,Kept.refl _⟩
     case round =>
      obtain⟨k,hk,rfl,hrest,hK⟩:=hrel;by_cases hlt:k<len
      · obtain⟨x,y,m,hx,hd,hb,hz,hz2,c1,c2,c3⟩:=(HR.out.kept hK).tri hlt;have HK:=lH hK;have HS:=lH (hrest.symm.trans ((congrArg (fun z=>z.all namedN) hd).trans all_named));obtain⟨q0,hq0⟩:∃q,(x.toList==([]:List UInt8))=q:=⟨_,rfl⟩
        obtain⟨q2,hq2⟩:∃q,(y.toList==([]:List UInt8))=q:=⟨_,rfl⟩
        obtain⟨n1,hn1⟩:∃q,isName x=q:=⟨_,rfl⟩
        obtain⟨n2,hn2⟩:∃q,isName y=q:=⟨_,rfl⟩
        have HN:=lH (show namedN (x,y,m)=((q0||n1)&&(if m=true then q2 else n2)) by unfold namedN;rw[no_iff,no_iff,hq0,hq2,hn1,hn2]);clear hK hrest hx hd
        cases q0 with
        | true =>
         cases m with
         | true =>
          cases q2 with
          | true =>
           have HQ:=lH (show namedN (x,y,true)=true by rw[HN.out];rfl);go_wp2_with (go_at_call 29;refine(refName_any _ _ (by assumption)).mono ?_;rintro e w' ⟨rfl,rfl⟩)
           go_roundw
           case rel=>exact⟨k+1,by omega,by go_num,(HS.out.trans (by rw[HQ.out];exact Bool.true_and _)).symm,HK.out.trans (kept_alloc _ _)⟩
           case measure=>simp[intOf];omega
          | false =>
           have HQ:=lH (show chkO l=3 by rw[HV.out,HS.out,HN.out];rfl);go_wp2_with (go_at_call 29;refine(refName_any _ _ (by assumption)).mono ?_;rintro e w' ⟨rfl,rfl⟩)
           go_ret;exact⟨ret_i64 HQ.out.symm,HK.out.trans (kept_alloc _ _)⟩
         | false =>
          cases n2 with
          | true =>
           have HQ:=lH (show namedN (x,y,false)=true by rw[HN.out];rfl);go_wp2_with (go_at_call 29;refine(refName_any _ _ (by assumption)).mono ?_;rintro e w' ⟨rfl,rfl⟩)
           go_roundw
           case rel=>exact⟨k+1,by omega,by go_num,(HS.out.trans (by rw[HQ.out];exact Bool.true_and _)).symm,HK.out.trans (kept_alloc _ _)⟩
           case measure=>simp[intOf];omega
          | false =>
           have HQ:=lH (show chkO l=3 by rw[HV.out,HS.out,HN.out];rfl);go_wp2_with (go_at_call 29;refine(refName_any _ _ (by assumption)).mono ?_;rintro e w' ⟨rfl,rfl⟩)
           go_ret;exact⟨ret_i64 HQ.out.symm,HK.out.trans (kept_alloc _ _)⟩
        | false =>
         cases n1 with
         | true =>
          cases m with
          | true =>
           cases q2 with
           | true =>
            have HQ:=lH (show namedN (x,y,true)=true by rw[HN.out];rfl);go_wp2_with (go_at_call 29;refine(refName_any _ _ (by assumption)).mono ?_;rintro e w' ⟨rfl,rfl⟩)
            go_roundw
            case rel=>exact⟨k+1,by omega,by go_num,(HS.out.trans (by rw[HQ.out];exact Bool.true_and _)).symm,HK.out.trans (kept_alloc _ _)⟩
            case measure=>simp[intOf];omega
           | false =>
            have HQ:=lH (show chkO l=3 by rw[HV.out,HS.out,HN.out];rfl);go_wp2_with (go_at_call 29;refine(refName_any _ _ (by assumption)).mono ?_;rintro e w' ⟨rfl,rfl⟩)
            go_ret;exact⟨ret_i64 HQ.out.symm,HK.out.trans (kept_alloc _ _)⟩
          | false =>
           cases n2 with
           | true =>
            have HQ:=lH (show namedN (x,y,false)=true by rw[HN.out];rfl);go_wp2_with (go_at_call 29;refine(refName_any _ _ (by assumption)).mono ?_;rintro e w' ⟨rfl,rfl⟩)
            go_roundw
            case rel=>exact⟨k+1,by omega,by go_num,(HS.out.trans (by rw[HQ.out];exact Bool.true_and _)).symm,HK.out.trans (kept_alloc _ _)⟩
            case measure=>simp[intOf];omega
           | false =>
            have HQ:=lH (show chkO l=3 by rw[HV.out,HS.out,HN.out];rfl);go_wp2_with (go_at_call 29;refine(refName_any _ _ (by assumption)).mono ?_;rintro e w' ⟨rfl,rfl⟩)
            go_ret;exact⟨ret_i64 HQ.out.symm,HK.out.trans (kept_alloc _ _)⟩
         | false =>
          have HQ:=lH (show chkO l=3 by rw[HV.out,HS.out,HN.out];rfl);go_wp2_with (go_at_call 29;refine(refName_any _ _ (by assumption)).mono ?_;rintro e w' ⟨rfl,rfl⟩)
          go_ret;exact⟨ret_i64 HQ.out.symm,HK.out.trans (kept_alloc _ _)⟩
      · have HK:=lH hK;have HS:=lH (hrest.symm.trans (congrArg (fun z=>z.all namedN) (drop_end (by rw[HL.out];exact hlt))));have HF:=lH (show chkO l=0 by rw[HV.out,HS.out];rfl);clear hK hrest;go_wp2;go_ret;exact⟨ret_i64 HF.out.symm,HK.out⟩
 · have HV:=lH (show chkO l=4 by unfold chkO;rw[if_pos (by omega)]);have h9:8<len:=by omega
   clear h8 hr hl;go_enter Tryz.func33,Tryz.ntmps33;go_wp2;go_ret;exact⟨ret_i64 HV.out.symm,Kept.refl _⟩
theorem twin_found {l:NL} {k j:Nat} {t z:NT} (hj:j<k) (hz:l[j]?=some z) (h:twinN t z=true):(l.take k).any (twinN t)=true:=by
 rw[List.any_eq_true];refine⟨z,List.mem_of_getElem? (i:=j) ?_,h⟩;rw[List.getElem?_take,if_pos hj];exact hz
theorem twin_next {l:NL} {j:Nat} {t z:NT} (hz:l[j]?=some z) (h:(l.take j).any (twinN t)=false) (g:twinN t z=false):(l.take (j+1)).any (twinN t)=false:=by
 rw[take_snoc hz,List.any_append,h];simp[g]
theorem refCheckA_any (a:Option Addr) (len cap:Nat) (l:NL) (w:World) (hr:RowAt TaLay w a len l) :
 Calls Tryz.prog 133 #[.slice a len cap] w fun e w'=>e=.returned (.int .i64 (chkA l))∧Kept w w':=by
 have hl:=hr.1;have hm:=hr.2.1;unfold maxLen at hm;by_cases h8:len≤8
 · have HV:=lH (show chkA l=chkAF [] l by unfold chkA;rw[if_neg (by omega)]);rcases hr.form with h0 | ⟨b,off,rfl⟩
   · subst h0;have HE:=lH (show chkA l=0 by rw[HV.out];rw[List.eq_nil_of_length_eq_zero hl];rfl);clear hr hl;go_enter Tryz.func133,Tryz.ntmps133;go_wp2;refine wp_loop_rounds 1 ?_;rw[rounds_succ];go_wp2;go_ret;exact⟨ret_i64 HE.out.symm,Kept.refl _⟩
   · have HR:=lH hr;have HL:=lH hl;clear hr hl;go_enter Tryz.func133,Tryz.ntmps133;go_wp2;go_loopw [3] (fun i wr=>∃k:Nat,k≤len∧i=.int .i64 k∧chkAF (l.take k) (l.drop k)=chkAF [] l∧Kept w wr) (fun i _=>len-(intOf i).toNat)
     case atStart=>exact⟨0,Nat.zero_le _,rfl,rfl,Kept.refl _⟩
     case round =>
      obtain⟨k,hk,rfl,hrest,hK⟩:=hrel;by_cases hlt:k<len
      · obtain⟨x,y,m,hx,hd,hb,hz,hz2,c1,c2,c3⟩:=(HR.out.kept hK).tri hlt;have HX:=lH hx;have HK:=lH hK;have HT:=lH (hrest.symm.trans (congrArg (chkAF (l.take k)) hd));have HS:=lH (HV.out.trans HT.out);clear hK hrest hx hd;by_cases n1:isName x=true
        · by_cases n2:isName y=true
          · have N1:=lH n1;have N2:=lH n2;go_wp2_with (go_at_call 29;refine(refName_any _ _ (by assumption)).mono ?_;rintro e w' ⟨rfl,rfl⟩)
            go_loopw [4] (fun i wr2=>∃j:Nat,j≤k∧i=.int .i64 j∧(l.take j).any (twinN (x,y,m))=false∧Kept w wr2) (fun i _=>k-(intOf i).toNat)
            case atStart=>exact⟨0,Nat.zero_le _,rfl,rfl,HK.out⟩
            case round =>
             obtain⟨j,hj,rfl,hnone,hK2⟩:=hrel;have HK2:=lH hK2;have HNO:=lH hnone;by_cases hjk:j<k
             · obtain⟨x',y',m',hx',_,hb',_,_,d1,d2,d3⟩:=(HR.out.kept hK2).tri (show j<len by omega);obtain⟨x9,y9,m9,hx9,_,_,_,_,e1,e2,e3⟩:=(HR.out.kept hK2).tri hlt;obtain⟨rfl,rfl,rfl⟩:x=x9∧y=y9∧m=m9:=by rw[HX.out] at hx9;simpa using hx9
               have HX':=lH hx';obtain⟨q1,hq1⟩:∃q,(x'.toList==x.toList)=q:=⟨_,rfl⟩
               obtain⟨q2,hq2⟩:∃q,(y'.toList==y.toList)=q:=⟨_,rfl⟩
               have HTW:=lH (show twinN (x,y,m) (x',y',m')=(q1&&q2) by unfold twinN eqS;rw[hq1,hq2]);have hjl:(j:Int)<(len:Int):=by omega
               clear hx9 hx' hnone hK2
               cases q1 with
               | true =>
                cases q2 with
                | true =>
                 go_wp2_with fail
                 go_quiet (fail)
                 go_wp2;go_ret;exact⟨ret_i64 (HS.out.trans (chkA_twice N1.out N2.out (twin_found hjk HX'.out HTW.out))).symm,HK2.out.trans (Kept.drewN _ _)⟩
                | false =>
                 go_wp2_with fail
                 go_quiet (fail)
                 go_wp2;go_roundw
                 case rel=>exact⟨j+1,by omega,by go_num,twin_next HX'.out HNO.out HTW.out,HK2.out.trans (Kept.drewN _ _)⟩
                 case measure=>simp[intOf];omega
               | false =>
                go_wp2_with fail
                go_quiet (fail)
                go_wp2;go_roundw
                case rel=>exact⟨j+1,by omega,by go_num,twin_next HX'.out HNO.out HTW.out,HK2.out.trans (Kept.drewN _ _)⟩
                case measure=>simp[intOf];omega
             · obtain rfl:j=k:=by omega
               clear hnone hK2;go_wp2;go_roundw
               case rel=>exact⟨j+1,by omega,by go_num,by rw[take_snoc HX.out];exact(chkA_next N1.out N2.out HNO.out).symm.trans HT.out.symm,HK2.out⟩
               case measure=>simp[intOf];omega
          · have n2:isName y=false:=by simpa using n2
            have N:=lH (show (isName x&&isName y)=false by rw[n2,Bool.and_false]);go_wp2_with (go_at_call 29;refine(refName_any _ _ (by assumption)).mono ?_;rintro e w' ⟨rfl,rfl⟩)
            go_ret;exact⟨ret_i64 (HS.out.trans (chkA_name N.out)).symm,HK.out⟩
        · have n1:isName x=false:=by simpa using n1
          have N:=lH (show (isName x&&isName y)=false by rw[n1,Bool.false_and]);go_wp2_with (go_at_call 29;refine(refName_any _ _ (by assumption)).mono ?_;rintro e w' ⟨rfl,rfl⟩)
          go_ret;exact⟨ret_i64 (HS.out.trans (chkA_name N.out)).symm,HK.out⟩
      · have HK:=lH hK;have HS:=lH ((HV.out.trans hrest.symm).trans (congrArg (chkAF (l.take k)) (drop_end (by rw[HL.out];exact hlt))));clear hK hrest;go_wp2;go_ret;exact⟨ret_i64 (HS.out.trans rfl).symm,HK.out⟩
 · have HV:=lH (show chkA l=4 by unfold chkA;rw[if_pos (by omega)]);have h9:8<len:=by omega
   clear h8 hr hl;go_enter Tryz.func133,Tryz.ntmps133;go_wp2;go_ret;exact⟨ret_i64 HV.out.symm,Kept.refl _⟩
theorem refCheckAR {v:Value} {l:NL} {c:Int} {w:World} (h:Reads TaLay w v l) (hc:chkA l=c):Calls Tryz.prog 133 #[v] w (Say (.int .i64 c) w):=by
 obtain⟨a,cap,rfl,_,_,hr⟩:=h;exact(refCheckA_any a _ cap l w hr).mono fun e w' ⟨he,k⟩=>⟨by rw[he,hc],k⟩
theorem refCheckOR {v:Value} {l:NL} {c:Int} {w:World} (h:Reads TaLay w v l) (hc:chkO l=c):Calls Tryz.prog 33 #[v] w (Say (.int .i64 c) w):=by
 obtain⟨a,cap,rfl,_,_,hr⟩:=h;exact(refCheckO_any a _ cap l w hr).mono fun e w' ⟨he,k⟩=>⟨by rw[he,hc],k⟩
end Go.Proofs.YtmlgobiifebjkacGreat
namespace Go.Proofs.YtmlgobiifebjkacGreat.Vec
open Go.RowKit Go.Proofs.YtmlgobiifebjkacGreat
def Inner (w:World) (v:Value) (vs:List (Nat×Nat)) (ps:List (List UInt8)):Prop :=
 ∀(i:Nat) (x:Nat×Nat) (p:List UInt8),vs[i]?=some x→ps[i]?=some p→x.1<w.heap.size∧v.ownBlock≠some x.1 ∧
  w.cell? ⟨x.1,0,none⟩=some (.string (bytes (nameOf p)))∧w.cell? ⟨x.1,1,none⟩=some (.string (bytes (numOf' p)))
theorem Inner.nil (w:World) (v:Value) (ps:List (List UInt8)):Inner w v [] ps:=fun i x p h=>by simp at h
theorem Inner.kept {w w':World} {v:Value} {vs:List (Nat×Nat)} {ps:List (List UInt8)} (h:Inner w v vs ps) (k:Kept w w'):Inner w' v vs ps:=fun i x p hx hp=>by
 obtain⟨h1,h2,h3,h4⟩:=h i x p hx hp;exact⟨Nat.lt_of_lt_of_le h1 k.size,h2,cell_later k h3,cell_later k h4⟩
theorem Inner.snoc {w w':World} {v:Value} {vs:List (Nat×Nat)} {ps:List (List UInt8)} {g n cap b c:Nat} {p:List UInt8} (h:Inner w v vs ps) (hg:w.grownBy w' v.ownBlock) (hgo:v.ownBlock=some g∨g=w.heap.size)
 (hp:ps[vs.length]?=some p) (hb:b<w.heap.size) (hne:v.ownBlock≠some b)
 (c0:w.cell? ⟨b,0,none⟩=some (.string (bytes (nameOf p)))) (c1:w.cell? ⟨b,1,none⟩=some (.string (bytes (numOf' p)))) :
 Inner w' (.slice (some ⟨g,0,none⟩) n cap) (vs++[(b,c)]) ps:=by
 have far:∀d,d<w.heap.size→v.ownBlock≠some d→d<w'.heap.size∧(Value.slice (some ⟨g,0,none⟩) n cap).ownBlock≠some d∧∀j,w'.cell? ⟨d,j,none⟩=w.cell? ⟨d,j,none⟩:=fun d hd hn=>by
  refine⟨Nat.lt_of_lt_of_le hd hg.size,?_,fun j=>hg.cell_far ⟨d,j,none⟩ hd (fun e=>hn e.symm)⟩;show some g≠some d;intro e;have e':g=d:=Option.some.inj e;rcases hgo with h1 | h1
  · exact hn (by rw[h1,e'])
  · omega
 intro i x q hx hq;by_cases hi:i<vs.length
 · rw[List.getElem?_append_left hi] at hx;obtain⟨h1,h2,h3,h4⟩:=h i x q hx hq;obtain⟨f1,f2,f3⟩:=far x.1 h1 h2;exact⟨f1,f2,(f3 0).trans h3,(f3 1).trans h4⟩
 · have hi2:i=vs.length:=by
    have:=(List.getElem?_eq_some_iff.1 hx).1;simp at this;omega
   subst hi2;have hxx:(b,c)=x:=by simpa using hx
   have hqq:q=p:=Option.some.inj (hq.symm.trans hp);subst hxx;subst hqq;obtain⟨f1,f2,f3⟩:=far b hb hne;exact⟨f1,f2,(f3 0).trans c0,(f3 1).trans c1⟩
open Go.RowKit
theorem radd_over (a b:Int) (w:World) (ha:0≤a) (hb:0≤b) (hb':b≤9223372036854775807) (h:9223372036854775807<a+b):Calls Tryz.prog 136 #[.int .i64 a,.int .i64 b] w (Pure2 0 5 w):=by
 go_enter Tryz.func136,Tryz.ntmps136;go_wp2;go_ret2
 exact⟨rfl,rfl⟩
theorem radd_ok (a b:Int) (w:World) (ha:0≤a) (hb:0≤b) (h:a+b≤9223372036854775807):Calls Tryz.prog 136 #[.int .i64 a,.int .i64 b] w (Pure2 (a+b) 0 w):=by
 go_enter Tryz.func136,Tryz.ntmps136;go_wp2;go_ret2
 exact⟨rfl,rfl⟩
def Told (c:Int) (m:V) (w:World) (e:Ending) (w':World):Prop:=∃x,e=.returned (.tuple #[x,.int .i64 c])∧OwnV 132 w' w.heap.size x m∧Kept w w'
theorem Told.none {c:Int} {w w':World} (k:Kept w w'):Told c [] w (.returned (.tuple #[.slice none 0 0,.int .i64 c])) w':=⟨_,rfl,OwnV.nil _ _ _,k⟩
end Go.Proofs.YtmlgobiifebjkacGreat.Vec
