/- What serves all packages,and package by package the contracts of the functions that the law calls. -/
import Derived.Test.YtmlgobiifebjkacGreatG0
import Derived.Test.YtmlgobiifebjkacGreatG1
import Derived.Test.YtmlgobiifebjkacGreatG4
import Derived.Test.YtmlgobiifebjkacGreatG5
import Derived.Test.YtmlgobiifebjkacGreatG9
import Derived.Test.YtmlgobiifebjkacGreatG10
import Derived.Lib.OwnBridge
import Derived.Shelf.SlSortCmp.NoneTotal
set_option linter.unusedVariables false
set_option maxRecDepth 100000
set_option maxHeartbeats 25600000
namespace Go.Proofs.YtmlgobiifebjkacGreat
open Go.RowKit Go.Shelf
attribute [local go_sem] Oper.semAt_some run_store_float
def mkC (x:Mk):List Value:=[.string x.1,.int .i64 x.2.1,.float .f64 x.2.2]
theorem one_mk (x:Mk) (u:Value) (h:u ∈ mkC x):u.oneCell'=true:=by
 have e:u=Value.string x.1∨u=Value.int .i64 x.2.1∨u=Value.float .f64 x.2.2:=by simpa [mkC] using h
 rcases e with e | e | e<;>rw[e]<;>rfl
def MkLay:Lay Mk:={ m:=3,cs:=mkC,fine:=fun x=>x.1.size≤maxLen∧x.2.2<TOP,len:=fun _=>rfl,one:=one_mk,pos:=by decide }
def mk0:Mk:=(⟨#[]⟩,0,0)
def uptoM (zs:List Mk) (k:Nat):List Mk:=(List.range k).map fun j=>zs[j]?.getD mk0
theorem uptoM_succ (zs:List Mk) (k:Nat):uptoM zs (k+1)=uptoM zs k++[zs[k]?.getD mk0]:=by simp[uptoM,List.range_succ]
theorem uptoM_length (zs:List Mk) (k:Nat):(uptoM zs k).length=k:=by simp[uptoM]
theorem uptoM_take (zs:List Mk) {k:Nat} (hk:k≤zs.length):uptoM zs k=zs.take k:=by
 apply List.ext_getElem
 · simp[uptoM,hk]
 · intro i h1 h2;have:i<zs.length:=by simp[uptoM] at h1;omega
   simp[uptoM,this]
theorem uptoM_all (zs:List Mk):uptoM zs zs.length=zs:=by rw[uptoM_take zs (Nat.le_refl _),List.take_length]
theorem mkvalues1_in (F:Fence) (n:Nat) (h7:F.fn 102) (hro:F.round=none) (hn:1≤n) (l Bs n₀ b off len cap:Nat) (zs:List Mk) (hreach:len≤1000000) (hb:b<n₀) (J Jx:List Mk→World→Prop)
 (hY:∀pre x W,J pre W→pre.length<len→YieldAt F (n-1) Tryz.prog l #[.agg #[.string x.1,.int .i64 x.2.1,.float .f64 x.2.2]] W fun e W' =>
   (e=.returned (.bool true)∧J (pre++[x]) W'∧Below n₀ W W')∨(e=.returned (.bool false)∧Jx (pre++[x]) W'))
 (W:World) (hJ:AbidesFrom W.heap.size J) (hnW:n₀≤W.heap.size) (hBs:W.cell? ⟨Bs,0,none⟩=some (.slice (some ⟨b,off,none⟩) len cap))
 (hc:∀j,j<len→W.cell? ⟨b,off+j*3,none⟩=some (.string (zs[j]?.getD mk0).1)∧W.cell? ⟨b,off+j*3+1,none⟩=some (.int .i64 (zs[j]?.getD mk0).2.1)∧W.cell? ⟨b,off+j*3+2,none⟩=some (.float .f64 (zs[j]?.getD mk0).2.2)) (h0:J [] W) :
 CallsIn F n Tryz.prog 102 #[.func (.yield l) #[] #[],.pointer (some ⟨Bs,0,none⟩)] W fun e W'=>(∃v,e=.returned v) ∧
  ((∃ys,ys=uptoM zs len∧J ys W')∨(∃pre,(∃k,k≤len∧pre=uptoM zs k)∧Jx pre W')):=by
 refine callsIn_of_wp Tryz.func102 rfl h7 ?_ hro;simp only[Tryz.ntmps102,List.size_toArray,List.length_cons,List.length_nil,Nat.reduceAdd,Nat.reduceSub,Array.replicate_succ,Array.replicate_zero,List.push_toArray,List.append_toArray,List.nil_append,List.cons_append];gi_wp2
 gi_loopw [7] (fun i wr=>∃k:Nat,k≤len∧i=.int .i64 k∧J (uptoM zs k) wr∧Below n₀ W wr∧W.heap.size≤wr.heap.size)
  (fun i _=>len-(intOf i).toNat)
 case atStart=>exact⟨0,Nat.zero_le _,rfl,h0,Below.refl _ _,Nat.le_refl _⟩
 case round =>
  obtain⟨k,hk,rfl,hJs,hnx,hsz⟩:=hrel;have hcx:k<len→wr.cell? ⟨b,off+k*3,none⟩=some (.string (zs[k]?.getD mk0).1)∧wr.cell? ⟨b,off+k*3+1,none⟩=some (.int .i64 (zs[k]?.getD mk0).2.1)∧wr.cell? ⟨b,off+k*3+2,none⟩=some (.float .f64 (zs[k]?.getD mk0).2.2):=fun h=>⟨(hnx.cell (p:=⟨b,off+k*3,none⟩) hb).trans (hc k h).1,(hnx.cell (p:=⟨b,off+k*3+1,none⟩) hb).trans (hc k h).2.1,(hnx.cell (p:=⟨b,off+k*3+2,none⟩) hb).trans (hc k h).2.2⟩
  by_cases hlt:k<len
  · obtain⟨c0,c1,c2⟩:=hcx hlt;have hus:=lH (uptoM_succ zs k);obtain⟨y,hy⟩:∃y,zs[k]?.getD mk0=y:=⟨_,rfl⟩
    rw[hy] at c0 c1 c2 hus;obtain⟨y1,y2,y3⟩:=y;clear hcx hy;obtain⟨w2,hw2⟩:∃X,wr.alloc (.cells #[.string y1,.int .i64 y2,.float .f64 y3] 138)=X:=⟨_,rfl⟩
    have hJ2:J (uptoM zs k) w2:=by rw[←hw2];exact hJ _ wr _ none hJs (World.grownBy_alloc _ _ none) (fun r e=>by cases e)
    have hb2:Below n₀ wr w2:=by rw[←hw2];exact(Below.refl _ wr).alloc (by have:=hnx.size;omega) _
    have hs2:W.heap.size≤w2.heap.size:=by rw[←hw2];simp;omega
    obtain⟨fn,tmps,assign,body,hyy,hR⟩:=hY _ (y1,y2,y3) w2 hJ2 (by rw[uptoM_length];exact hlt);dsimp only at hyy;rw[←hw2] at hyy hR;have HW2:=lH hw2;clear hw2;gi_wp2
    refine hR.mono ?_;rintro e W3 (⟨rfl,hJ3,hk3⟩ | ⟨rfl,hJx3⟩)
    · rw[HW2.out] at hk3;gi_wp2
      go_roundw
      case rel=>exact⟨k+1,by omega,by simp,by rw[hus.out];exact hJ3,hnx.trans (hb2.trans hk3),Nat.le_trans hs2 hk3.size⟩
      case measure=>simp[intOf];omega
    · gi_wp2
      refine bodyPost_ret (results_none rfl _ _ _) rfl ?_;exact⟨⟨_,rfl⟩,.inr ⟨_,⟨k+1,by omega,hus.out.symm⟩,hJx3⟩⟩
  · obtain rfl:k=len:=by omega
    gi_wp2
    go_end0
    exact⟨⟨_,rfl⟩,.inl ⟨_,rfl,hJs⟩⟩
def Mks (n₀:Nat) (W:World) (sv:Value) (zs:List Mk):Prop :=
 ∃a cap,sv=.slice a zs.length cap∧(zs.length=0∨∃b off,a=some ⟨b,off,none⟩∧b<n₀∧∀j,j<zs.length→W.cell? ⟨b,off+j*3,none⟩=some (.string (zs[j]?.getD mk0).1)∧W.cell? ⟨b,off+j*3+1,none⟩=some (.int .i64 (zs[j]?.getD mk0).2.1)∧W.cell? ⟨b,off+j*3+2,none⟩=some (.float .f64 (zs[j]?.getD mk0).2.2))
theorem Mks.below {n₀:Nat} {A B:World} (h:Below n₀ A B) {sv:Value} {zs:List Mk} (hf:Mks n₀ A sv zs):Mks n₀ B sv zs:=by
 obtain⟨a,cap,e,hc⟩:=hf;refine⟨a,cap,e,hc.imp id ?_⟩;rintro ⟨b,off,ea,hb,hc⟩;exact⟨b,off,ea,hb,fun j hj=>⟨(h.cell (p:=⟨b,off+j*3,none⟩) hb).trans (hc j hj).1,(h.cell (p:=⟨b,off+j*3+1,none⟩) hb).trans (hc j hj).2.1,(h.cell (p:=⟨b,off+j*3+2,none⟩) hb).trans (hc j hj).2.2⟩⟩
theorem Reads.mks {w:World} {v:Value} {l:List Mk} (h:Reads MkLay w v l):Mks w.heap.size w v l:=by
 obtain⟨a,cap,rfl,h1,h2,h3⟩:=h;refine⟨a,cap,rfl,?_⟩;rcases Nat.eq_zero_or_pos l.length with hz | hz
 · exact .inl hz
 · rcases h3.form with h4 | ⟨b,off,rfl⟩
   · exact .inl h4
   · obtain⟨-,-,-,hb,-⟩:=h3.cells hz;refine .inr ⟨b,off,rfl,hb,fun j hj=>?_⟩;obtain⟨x,hx,-,-,-,hc⟩:=h3.cells hj;rw[hx];exact⟨hc 0 _ rfl,hc 1 _ rfl,hc 2 _ rfl⟩
theorem mkvalues1_nil_in (F:Fence) (n:Nat) (h7:F.fn 102) (hro:F.round=none) (l Bs:Nat) (a:Option Addr) (cap:Nat) (J:List Mk→World→Prop) (W:World) (hBs:W.cell? ⟨Bs,0,none⟩=some (.slice a 0 cap)) (h0:J [] W) :
 CallsIn F n Tryz.prog 102 #[.func (.yield l) #[] #[],.pointer (some ⟨Bs,0,none⟩)] W fun e W'=>(∃v,e=.returned v)∧J [] W':=by
 refine callsIn_of_wp Tryz.func102 rfl h7 ?_ hro;simp only[Tryz.ntmps102,List.size_toArray,List.length_cons,List.length_nil,Nat.reduceAdd,Nat.reduceSub,Array.replicate_succ,Array.replicate_zero,List.push_toArray,List.append_toArray,List.nil_append,List.cons_append];gi_wp2
 gi_loopw [7] (fun i wr=>i=.int .i64 0∧J [] wr) (fun _ _=>0)
 case atStart=>exact⟨rfl,h0⟩
 case round =>
  obtain⟨rfl,hJs⟩:=hrel;gi_wp2
  go_end0
  exact⟨⟨_,rfl⟩,hJs⟩
theorem mkvalues_any (a:Option Addr) (len cap:Nat) (w:World) :
 Calls Tryz.prog 69 #[.slice a len cap] w fun e w'=>e=.returned (.func (.func 102) #[] #[.pointer (some ⟨w.heap.size,0,none⟩)])∧w.alloc (.cells #[.slice a len cap] 90)=w':=by
 go_enter Tryz.func69,Tryz.ntmps69;go_wp2;go_ret;exact⟨rfl,rfl⟩
theorem mkvalues_stops (F:Fence) (n:Nat) (h7:F.fn 102) (hro:F.round=none) (hn:1≤n) (Bs n₀:Nat) (sv:Value) (zs:List Mk) (hreach:zs.length≤1000000) (w:World) (hBs:Bs<w.heap.size) (hn₀:n₀≤w.heap.size)
 (hc:w.cell? ⟨Bs,0,none⟩=some sv) (hI:Mks n₀ w sv zs) :
 SeqStopsK F n Tryz.prog 102 #[.pointer (some ⟨Bs,0,none⟩)] (fun x:Mk=>#[.agg #[.string x.1,.int .i64 x.2.1,.float .f64 x.2.2]]) (Below n₀) (fun ys=>ys=zs) (fun pre=>pre <+: zs) zs.length w:=fun l J Jx W hW hJ _ hY h0=>by
 have hc':=(hW.cell (p:=⟨Bs,0,none⟩) hBs).trans hc;obtain⟨a,cap,rfl,h3⟩:=hI.below (hW.mono hn₀);rcases h3 with hz | ⟨b,off,rfl,hb,hcs⟩
 · have hzs:zs=[]:=List.length_eq_zero_iff.1 hz;subst hzs;exact(mkvalues1_nil_in F n h7 hro l Bs a cap J W hc' h0).mono fun e W' ⟨he,hj⟩=>⟨he,.inl ⟨_,rfl,hj⟩⟩
 · refine(mkvalues1_in F n h7 hro hn l Bs n₀ b off zs.length cap zs hreach hb J Jx hY W hJ (Nat.le_trans hn₀ hW.size) hc' hcs h0).mono ?_;rintro e W' ⟨he,⟨ys,rfl,hj⟩ | ⟨pre,⟨k,hk,rfl⟩,hj⟩⟩
   · exact⟨he,.inl ⟨_,uptoM_all zs,hj⟩⟩
   · exact⟨he,.inr ⟨_,by rw[uptoM_take zs hk];exact List.take_prefix _ _,hj⟩⟩
theorem infoMk:(Tryz.prog.info? 138).map (fun i=>(i.zero,i.size,i.bytes))=some (some (.agg #[.string ByteArray.empty,.int .i64 0,.float .f64 0]),3,32):=by kernel_rfl
def MkBox (W:World) (q:Nat) (x:Mk):Prop:=W.heap[q]?=some (.cells #[.string x.1,.int .i64 x.2.1,.float .f64 x.2.2] 138 (0,0))
theorem MkBox.cells {W:World} {q:Nat} {x:Mk} (h:MkBox W q x):W.cell? ⟨q,0,none⟩=some (.string x.1)∧W.cell? ⟨q,1,none⟩=some (.int .i64 x.2.1)∧W.cell? ⟨q,2,none⟩=some (.float .f64 x.2.2) :=
 ⟨by rw[Lib.cell_of_heap h];rfl,by rw[Lib.cell_of_heap h];rfl,by rw[Lib.cell_of_heap h];rfl⟩
theorem MkBox.kept {B q:Nat} {x:Mk} {X Y:World} {row:Option Nat} (h:MkBox X q x) (hg:X.grownBy Y row) (hrow:∀r,row=some r→B≤r∧∃o:Obj,X.heap[r]?=some o∧o.isCells=false):MkBox Y q x :=
 (hg.block q (Array.getElem?_eq_some_iff.1 h).1 (fun e'=>by
   obtain⟨-,o,ho,hc⟩:=hrow q e'.symm;rw[show X.heap[q]?=_ from h] at ho;cases ho;cases hc)).trans h
theorem cells_mk_new (w:World) (x:Mk):∀j u,(mkC x)[j]?=some u→(w.alloc (.cells #[.string x.1,.int .i64 x.2.1,.float .f64 x.2.2] 138)).cell? ((⟨w.heap.size,0,none⟩:Addr).add j)=some u:=fun j u h=>by
 match j,h with
 | 0,h=>cases h;simp[Addr.add]
 | 1,h=>cases h;simp[Addr.add]
 | 2,h=>cases h;simp[Addr.add]
 | j+3,h=>cases h
def OwnM (base:Nat) (W:World) (v:Value) (zs:List Mk):Prop:=W.ownsRow base 138 3 v zs.length (zs.flatMap mkC)∧(v=.slice none 0 0↔zs=[])
theorem mkappendSeq_in (F:Fence) (n:Nat) (h3:F.fn 139) (h5:F.fn 102) (hro:F.round=none) (hn:3≤n) (Bs:Nat) (sv:Value) (xs:List Mk) (hlen:xs.length≤1000000) (w:World)
 (hBs:Bs<w.heap.size) (hcs:w.cell? ⟨Bs,0,none⟩=some sv) (hL:Mks w.heap.size w sv xs) :
 CallsIn F n Tryz.prog 139 #[.slice none 0 0,.func (.func 102) #[] #[.pointer (some ⟨Bs,0,none⟩)]] w fun e W'=>∃v,e=.returned v∧OwnM w.heap.size W' v xs∧Below w.heap.size w W':=by
 have h1:1≤n:=by omega
 obtain⟨i0,hi,hz0,hz1,hz2⟩:=info_parts infoMk;refine callsIn_of_wp_marks Tryz.func139 rfl h3 ?_ hro;simp only[Tryz.ntmps139,List.size_toArray,List.length_cons,List.length_nil,Nat.reduceAdd,Nat.reduceSub,Array.replicate_succ,Array.replicate_zero,List.push_toArray,List.append_toArray,List.nil_append,List.cons_append];gi_wp2
 have bO:=Boxed.new w 90 (.slice none 0 0);have hB0:Below w.heap.size w (w.alloc (.cells #[.slice none 0 0] 90)):=(Below.refl _ w).alloc (Nat.le_refl _) _
 refine wpIn_rangeFunc_ownH hro h1 (gf:=102) (lb:=#[.pointer (some ⟨Bs,0,none⟩)]) rfl h5 (enters_of Tryz.func102 (by kernel_rfl) rfl)
  (mkvalues_stops F (n-1) h5 hro (by omega) Bs w.heap.size sv xs hlen _ (by simp;omega) (by simp) ((hB0.cell (p:=⟨Bs,0,none⟩) hBs).trans hcs) (hL.below hB0)) belowK_t (belowK_b (by simp)) (Below.refl _ _) (fun _=>rfl)
  (fun pre W=>(∃v,Boxed W w.heap.size 90 v∧W.ownsRow w.heap.size 138 3 v pre.length (pre.flatMap mkC)∧(v=.slice none 0 0↔pre=[]))∧Below w.heap.size w W)
  (fun _ _ _=>False)
  (OwnFrom.and (Go.Own.from (holdsRow_own w.heap.size w.heap.size 90 138 3 (fun pre=>pre.length) (fun pre=>pre.flatMap mkC) (fun pre v=>v=.slice none 0 0↔pre=[])) _) (ownFrom_below (Nat.le_refl _) (by simp)))
  (fun _ _ _ _ _ hs _ _=>hs)
  ⟨⟨_,bO,World.ownsRow_nil _ _ _ _,by simp⟩,hB0⟩
  (fun x a' W=>∃q,a'={ tmps:=#[.slice none 0 0,.func (.func 102) #[] #[.pointer (some ⟨Bs,0,none⟩)],.pointer (some ⟨w.heap.size,0,none⟩),undef,.slice none 0 0,.pointer (some ⟨q,0,none⟩),.func (.func 102) #[] #[.pointer (some ⟨Bs,0,none⟩)],.agg #[.string x.1,.int .i64 x.2.1,.float .f64 x.2.2],undef,undef,undef,undef,undef],defers:=[] }∧MkBox W q x)
  (fun x a' s X Y row hs hg hr=>by
    obtain⟨q,e,hb⟩:=hs;exact⟨q,e,hb.kept hg hr⟩) ?assign ?body ?done ?stop
 case assign =>
  rintro l pre x W K ⟨⟨v,hv,hrow,hnil⟩,hB⟩ hK;have hle:w.heap.size≤W.heap.size:=hB.size;gi_wp2
  exact hK _ _ (KeepsFrom.of_grownBy (World.grownBy_alloc W _ none) (by simp)) ((Below.refl _ W).alloc hle _) ⟨⟨v,hv.alloc _,hrow.alloc _,hnil⟩,hB.alloc hle _⟩ ⟨W.heap.size,rfl,World.alloc_heap_new W _⟩
 case body =>
  rintro l pre x a' W hwl hrl ⟨⟨v,hv,hrow,hnil⟩,hB⟩ ⟨q,rfl,hbx⟩ hlt;have hc:=hv.cell;obtain⟨e0,e1,e2⟩:=hbx.cells;gi_wp2_with (gi_at_builtin;refine wpListIn_append_own _ rfl _ _ 90 rfl w.heap.size 138 i0 (.agg #[.string ByteArray.empty,.int .i64 0,.float .f64 0]) 3 32 Tryz.underlying90 hi hz0 hz1 hz2 rfl (by decide) _ _ _ rfl (hrow.alloc _) ⟨W.heap.size,0,none⟩ 1 1 (mkC x) rfl rfl (cells_mk_new W x) (one_mk x) (by unfold maxLen;omega) (by omega) (by have:=hB.size;simp;omega) ?_;intro v' w1 hown' hgrow _;obtain⟨g',cap',rfl⟩:=ownsRow_succ hown';obtain⟨hv1,hv2,hr2,hk2,hb2⟩:=hv.appended (by decide) hrow hB.size (Nat.le_refl _) hown' hgrow;have hc1:=hv1.cell;have hf1:=hv1.frozen)
  exact⟨hk2.from _,hb2,⟨_,hv2,by simpa using hr2,by simp⟩,hB.trans hb2⟩
 case done =>
  rintro D ys W hD rfl ⟨⟨v,hv,hrow,hnil⟩,hB⟩ hK;have hc:=hv.cell;gi_wp2
  refine⟨by simp,.inl ⟨_,_,rfl,run_takeDeferred hK,?_⟩⟩;exact⟨_,results_tmp rfl _ _ _,v,rfl,⟨ownsRow_putObj hrow _ hK rfl,hnil⟩,hB.trans (belowK_b (w:=w) (Nat.le_refl _) W D _ _ (by simp at hD;omega) hK rfl rfl)⟩
 case stop =>
  rintro D c pre W _ _ h _;exact h.elim
theorem mkcollect_any (Bs:Nat) (sv:Value) (xs:List Mk) (hlen:xs.length≤1000000) (w:World) (hBs:Bs<w.heap.size) (hcs:w.cell? ⟨Bs,0,none⟩=some sv) (hL:Mks w.heap.size w sv xs) :
 Calls Tryz.prog 100 #[.func (.func 102) #[] #[.pointer (some ⟨Bs,0,none⟩)]] w fun e W'=>∃v,e=.returned v∧OwnM w.heap.size W' v xs∧Below w.heap.size w W':=by
 have hA:Calls Tryz.prog 139 #[.slice none 0 0,.func (.func 102) #[] #[.pointer (some ⟨Bs,0,none⟩)]] w _ :=
  callsIn_wide.1 (mkappendSeq_in Fence.wide 3 trivial trivial rfl (by omega) Bs sv xs hlen w hBs hcs hL)
 have HC:=lH hA;clear hA hBs hcs hL;go_enter Tryz.func100,Tryz.ntmps100;go_wp2_with fail
 refine HC.out.mono ?_;rintro e w1 ⟨v,rfl,ho,hb⟩;have HO:=lH ho;have HB:=lH hb;clear ho hb;go_wp2_with fail
 go_ret;exact⟨v,rfl,HO.out,HB.out⟩
end Go.Proofs.YtmlgobiifebjkacGreat
namespace Go.Proofs.YtmlgobiifebjkacGreat
open Go.RowKit
attribute [local go_sem] run_store_float
def Tells (s:Clu) (p:Pd) (names:List ByteArray) (l:List Mk):Prop:=l.map (·.1)=names∧∀x ∈ l,x.2.1=softS s p x.1∧nrm x.2.2=scoreS s p x.1
theorem Tells.nil (s:Clu) (p:Pd):Tells s p [] []:=⟨rfl,fun x h=>by cases h⟩
theorem Tells.snoc {s:Clu} {p:Pd} {names:List ByteArray} {l:List Mk} {x:ByteArray} {m:Int} {r:Nat} (h:Tells s p names l) (hm:m=softS s p x) (hr:nrm r=scoreS s p x):Tells s p (names++[x]) (l++[(x,m,r)]):=by
 refine⟨by rw[List.map_append,h.1];rfl,fun y hy=>?_⟩;rcases List.mem_append.1 hy with hy | hy
 · exact h.2 y hy
 · obtain rfl:=List.mem_singleton.1 hy;exact⟨hm,hr⟩
theorem Tells.len {s:Clu} {p:Pd} {names:List ByteArray} {l:List Mk} (h:Tells s p names l):l.length=names.length:=by rw[←h.1,List.length_map]
theorem marks_any (s1 s2 s3:Option Addr) (n1 e1 n2 e2 n3 e3:Nat) (a1 a2 a3 a4:Option Addr) (m1 c1 m2 c2 m3 c3 m4 c4:Nat) (p:Pd) (s:Clu) (w:World) (hs:CluR w (CluV (.slice s1 n1 e1) (.slice s2 n2 e2) (.slice s3 n3 e3)) s) (hl:LowClu s) (hb:s.pods.length+1≤100000) (hp:PodAt w (.slice a1 m1 c1) (.slice a2 m2 c2) (.slice a3 m3 c3) (.slice a4 m4 c4) p) (hlp:LowPd p):Calls Tryz.prog 39 #[.agg #[.slice s1 n1 e1,.slice s2 n2 e2,.slice s3 n3 e3],PodV p (.slice a1 m1 c1) (.slice a2 m2 c2) (.slice a3 m3 c3) (.slice a4 m4 c4)] w fun e w'=>∃(v:Value) (l:List Mk),e=.returned v∧Reads MkLay w' v l∧Tells s p (fitsL s p s.nodes) l∧Kept w w':=by
 obtain⟨i0,hi,hz0,hz1,hz2'⟩:=info_parts infoMk;obtain⟨Z,hZ⟩:∃Z,(w.alloc (.cells #[.slice s1 n1 e1,.slice s2 n2 e2,.slice s3 n3 e3] 26)).alloc (.cells #[.string p.name,.string p.owner,.int .i64 p.prio,.slice a1 m1 c1,.slice a2 m2 c2,.slice a3 m3 c3,.slice a4 m4 c4,.string p.key,.int .i64 p.most,.string p.node,.bool p.hold] 35)=Z:=⟨_,rfl⟩
 have hkz:Kept w Z:=by rw[←hZ];exact kept_two _ _ _
 have HB1:=lH (freshN w (.slice s1 n1 e1) [.slice s2 n2 e2,.slice s3 n3 e3] 26 Z (by rw[←hZ];exact kept_alloc _ _));have HB2:=lH (show CellsN (w.heap.size+1) [.string p.name,.string p.owner,.int .i64 p.prio,.slice a1 m1 c1,.slice a2 m2 c2,.slice a3 m3 c3,.slice a4 m4 c4,.string p.key,.int .i64 p.most,.string p.node,.bool p.hold] Z by
  have dd:=freshN (w.alloc (.cells #[.slice s1 n1 e1,.slice s2 n2 e2,.slice s3 n3 e3] 26)) (.string p.name) [.string p.owner,.int .i64 p.prio,.slice a1 m1 c1,.slice a2 m2 c2,.slice a3 m3 c3,.slice a4 m4 c4,.string p.key,.int .i64 p.most,.string p.node,.bool p.hold] 35 Z (by rw[hZ];exact Kept.refl _);rw[World.size_alloc] at dd;exact dd)
 have K:=lH hkz;have HS:=lH (hs.kept hkz);have HP:=lH (hp.kept hkz);have HL:=lH hl;have HLB:=lH hb;have HLP:=lH hlp;clear hs hp hkz hl hb hlp;have HF:=lH (show ∀W,Kept Z W→W.cell? ⟨w.heap.size,0,none⟩=some (.slice s1 n1 e1)∧W.cell? ⟨w.heap.size,1,none⟩=some (.slice s2 n2 e2)∧W.cell? ⟨w.heap.size,2,none⟩=some (.slice s3 n3 e3)∧W.cell? ⟨w.heap.size+1,0,none⟩=some (.string p.name)∧W.cell? ⟨w.heap.size+1,1,none⟩=some (.string p.owner)∧W.cell? ⟨w.heap.size+1,2,none⟩=some (.int .i64 p.prio)∧W.cell? ⟨w.heap.size+1,3,none⟩=some (.slice a1 m1 c1)∧W.cell? ⟨w.heap.size+1,4,none⟩=some (.slice a2 m2 c2)∧W.cell? ⟨w.heap.size+1,5,none⟩=some (.slice a3 m3 c3)∧W.cell? ⟨w.heap.size+1,6,none⟩=some (.slice a4 m4 c4)∧W.cell? ⟨w.heap.size+1,7,none⟩=some (.string p.key)∧W.cell? ⟨w.heap.size+1,8,none⟩=some (.int .i64 p.most)∧W.cell? ⟨w.heap.size+1,9,none⟩=some (.string p.node)∧W.cell? ⟨w.heap.size+1,10,none⟩=some (.bool p.hold) from fun W kk=>by
  have h:=HB1.out.kept kk;have q:=HB2.out.kept kk;exact⟨h.at_ 0 _ rfl,h.at_ 1 _ rfl,h.at_ 2 _ rfl,q.at_ 0 _ rfl,q.at_ 1 _ rfl,q.at_ 2 _ rfl,q.at_ 3 _ rfl,q.at_ 4 _ rfl,q.at_ 5 _ rfl,q.at_ 6 _ rfl,q.at_ 7 _ rfl,q.at_ 8 _ rfl,q.at_ 9 _ rfl,q.at_ 10 _ rfl⟩)
 have HFT:=lH (fits_any s1 s2 s3 n1 e1 n2 e2 n3 e3 a1 a2 a3 a4 m1 c1 m2 c2 m3 c3 m4 c4 p s Z HS.out HL.out HP.out);unfold PodV at HFT;have hfl:=fitsL_len s p s.nodes;have HNL:=HL.out.nodesN;have y0:=HB1.out.at_ 0 _ rfl;have y1:=HB1.out.at_ 1 _ rfl;have y2:=HB1.out.at_ 2 _ rfl;have r0:=HB2.out.at_ 0 _ rfl;have r1:=HB2.out.at_ 1 _ rfl;have r2:=HB2.out.at_ 2 _ rfl;have r3:=HB2.out.at_ 3 _ rfl;have r4:=HB2.out.at_ 4 _ rfl;have r5:=HB2.out.at_ 5 _ rfl;have r6:=HB2.out.at_ 6 _ rfl;have r7:=HB2.out.at_ 7 _ rfl;have r8:=HB2.out.at_ 8 _ rfl;have r9:=HB2.out.at_ 9 _ rfl;have r10:=HB2.out.at_ 10 _ rfl;unfold PodV;go_enter Tryz.func39,Tryz.ntmps39;go_wp2_with fail
 try rw[hZ]
 clear hZ;refine HFT.out.mono ?_;rintro e w1 ⟨v9,rfl,hr,kk⟩;obtain⟨names,hnm⟩:∃q,fitsL s p s.nodes=q:=⟨_,rfl⟩
 rw[hnm] at hr hfl;have HNM9:=lH hnm;clear hnm;obtain⟨wa,wc,rfl,-,-,hrow⟩:=hr.reads;obtain⟨n9,hn9⟩:∃q,names.length=q:=⟨_,rfl⟩
 rw[hn9] at hrow hfl ⊢;have HNF:=lH hr.2;have HN9:=lH hn9;have HWR:=lH hrow;have hn5:n9≤100000:=by omega
 have J1:=lH kk;clear kk hr hrow hn9 hfl HNL HFT y0 y1 y2 r0 r1 r2 r3 r4 r5 r6 r7 r8 r9 r10;go_wp2;go_loopw [5,7,12] (fun v _ i wr=>∃k:Nat,k≤n9∧i=.int .i64 k∧∃la:List Mk,Tells s p (names.take k) la∧Own MkLay 138 wr w1.heap.size v la∧Kept w1 wr) (fun _ _ i _=>n9-(intOf i).toNat)
 case atStart=>exact⟨0,Nat.zero_le _,rfl,[],Tells.nil _ _,Own.nil _ _ _,Kept.refl _⟩
 case round =>
  obtain⟨k,hk,rfl,la,hla,ho,hK⟩:=hrel;have HX:=lH hla;have HO:=lH ho;have HK:=lH hK;obtain⟨m,hm⟩:∃m,la.length=m:=⟨_,rfl⟩
  have hmk:m≤k:=by
   have:=hla.len;rw[hm,List.length_take] at this;omega
  have HT:=lH hm;have hbase:w1.heap.size≤wr.heap.size:=hK.size;by_cases hlt:k<n9
  · obtain⟨b9,o9,rfl⟩:=HWR.out.form.resolve_left (by omega);obtain⟨xn,hxn,-,-,hxs,cw⟩:=(HWR.out.kept hK).str hlt;have HWT:=lH (show names.take (k+1)=names.take k++[xn] by rw[List.take_add_one,hxn];rfl);have HXS:=lH hxs;have hkk:(k:Int)<(n9:Int):=by omega
    have hk0:¬(k:Int)<0:=by omega
    have J:=lH ((J1.out.trans hK).trans (Kept.drew wr));clear hla ho hm hxn hxs hK;go_upto_region 5 with fail
    clear cw hkk hk0;refine wp_region_held_drew (S:=fun W=>W.cell? ⟨w.heap.size,0,none⟩=some (.slice s1 n1 e1)∧W.cell? ⟨w.heap.size,1,none⟩=some (.slice s2 n2 e2)∧W.cell? ⟨w.heap.size,2,none⟩=some (.slice s3 n3 e3)∧W.cell? ⟨w.heap.size+1,0,none⟩=some (.string p.name)∧W.cell? ⟨w.heap.size+1,1,none⟩=some (.string p.owner)∧W.cell? ⟨w.heap.size+1,2,none⟩=some (.int .i64 p.prio)∧W.cell? ⟨w.heap.size+1,3,none⟩=some (.slice a1 m1 c1)∧W.cell? ⟨w.heap.size+1,4,none⟩=some (.slice a2 m2 c2)∧W.cell? ⟨w.heap.size+1,5,none⟩=some (.slice a3 m3 c3)∧W.cell? ⟨w.heap.size+1,6,none⟩=some (.slice a4 m4 c4)∧W.cell? ⟨w.heap.size+1,7,none⟩=some (.string p.key)∧W.cell? ⟨w.heap.size+1,8,none⟩=some (.int .i64 p.most)∧W.cell? ⟨w.heap.size+1,9,none⟩=some (.string p.node)∧W.cell? ⟨w.heap.size+1,10,none⟩=some (.bool p.hold)) (by kernel_rfl) (HF.out _ J.out) (fun hHeld=>?_);obtain⟨wd,hwd⟩:∃W,wr.drew=W:=⟨_,rfl⟩
    have JR:=lH (Kept.drew wr);rw[hwd] at J JR hHeld;try rw[hwd]
    clear hwd;refine wpAnyH_take  (i:=0) (v:=?_) (by rw[List.getElem?_toArray];exact rfl) (by kernel_rfl) (by kernel_rfl) (by kernel_rfl) (by exact fun _ _ _ h=>h) (Or.inl ⟨by rfl,(by rintro W ⟨o0,o1,o2,o3,o4,o5,o6,o7,o8,o9,o10,o11,o12,o13⟩;go_simp<;>with_reducible rfl)⟩) (by assumption) ?_;try simp only  [Act.put,List.setIfInBounds_toArray,List.set_cons_zero,List.set_cons_succ]
    refine wpAnyH_take  (i:=1) (v:=?_) (by rw[List.getElem?_toArray];exact rfl) (by kernel_rfl) (by kernel_rfl) (by kernel_rfl) (by exact fun _ _ _ h=>h) (Or.inl ⟨by rfl,(by rintro W ⟨o0,o1,o2,o3,o4,o5,o6,o7,o8,o9,o10,o11,o12,o13⟩;go_simp<;>with_reducible rfl)⟩) (by assumption) ?_;try simp only  [Act.put,List.setIfInBounds_toArray,List.set_cons_zero,List.set_cons_succ]
    refine wpAnyH_take  (i:=2) (v:=?_) (by rw[List.getElem?_toArray];exact rfl) (by kernel_rfl) (by kernel_rfl) (by kernel_rfl) (by exact fun _ _ _ h=>h) (Or.inl ⟨by rfl,(by rintro W ⟨o0,o1,o2,o3,o4,o5,o6,o7,o8,o9,o10,o11,o12,o13⟩;go_simp<;>with_reducible rfl)⟩) (by assumption) ?_;try simp only  [Act.put,List.setIfInBounds_toArray,List.set_cons_zero,List.set_cons_succ]
    refine wpAnyH_take  (i:=3) (v:=?_) (by rw[List.getElem?_toArray];exact rfl) (by kernel_rfl) (by kernel_rfl) (by kernel_rfl) (by exact fun _ _ _ h=>h) (Or.inl ⟨by rfl,(by rintro W ⟨o0,o1,o2,o3,o4,o5,o6,o7,o8,o9,o10,o11,o12,o13⟩;go_simp<;>with_reducible rfl)⟩) (by assumption) ?_;try simp only  [Act.put,List.setIfInBounds_toArray,List.set_cons_zero,List.set_cons_succ]
    refine wpAnyH_take  (i:=4) (v:=?_) (by rw[List.getElem?_toArray];exact rfl) (by kernel_rfl) (by kernel_rfl) (by kernel_rfl) (by exact fun _ _ _ h=>h) (Or.inl ⟨by rfl,(by rintro W ⟨o0,o1,o2,o3,o4,o5,o6,o7,o8,o9,o10,o11,o12,o13⟩;go_simp<;>with_reducible rfl)⟩) (by assumption) ?_;try simp only  [Act.put,List.setIfInBounds_toArray,List.set_cons_zero,List.set_cons_succ]
    refine wpAnyH_take  (i:=5) (v:=?_) (by rw[List.getElem?_toArray];exact rfl) (by kernel_rfl) (by kernel_rfl) (by kernel_rfl) (by exact fun _ _ _ h=>h) (Or.inl ⟨by rfl,(by rintro W ⟨o0,o1,o2,o3,o4,o5,o6,o7,o8,o9,o10,o11,o12,o13⟩;go_simp<;>with_reducible rfl)⟩) (by assumption) ?_;try simp only  [Act.put,List.setIfInBounds_toArray,List.set_cons_zero,List.set_cons_succ]
    refine wpAnyH_take  (i:=9) (v:=?_) (by rw[List.getElem?_toArray];exact rfl) (by kernel_rfl) (by kernel_rfl) (by kernel_rfl) (by exact fun _ _ _ h=>h) (Or.inl ⟨by rfl,(by rintro W ⟨o0,o1,o2,o3,o4,o5,o6,o7,o8,o9,o10,o11,o12,o13⟩;go_simp<;>with_reducible rfl)⟩) (by assumption) ?_;try simp only  [Act.put,List.setIfInBounds_toArray,List.set_cons_zero,List.set_cons_succ]
    refine wpAnyH_take  (i:=10) (v:=?_) (by rw[List.getElem?_toArray];exact rfl) (by kernel_rfl) (by kernel_rfl) (by kernel_rfl) (by exact fun _ _ _ h=>h) (Or.inl ⟨by rfl,(by rintro W ⟨o0,o1,o2,o3,o4,o5,o6,o7,o8,o9,o10,o11,o12,o13⟩;go_simp<;>with_reducible rfl)⟩) (by assumption) ?_;try simp only  [Act.put,List.setIfInBounds_toArray,List.set_cons_zero,List.set_cons_succ]
    refine wpAnyH_take  (i:=11) (v:=?_) (by rw[List.getElem?_toArray];exact rfl) (by kernel_rfl) (by kernel_rfl) (by kernel_rfl) (by exact fun _ _ _ h=>h) (Or.inl ⟨by rfl,(by rintro W ⟨o0,o1,o2,o3,o4,o5,o6,o7,o8,o9,o10,o11,o12,o13⟩;go_simp<;>with_reducible rfl)⟩) (by assumption) ?_;try simp only  [Act.put,List.setIfInBounds_toArray,List.set_cons_zero,List.set_cons_succ]
    refine wpAnyH_ready  (rs:=[6]) (by kernel_rfl) (by simp) (AllReadyH.cons  (by rw[List.getElem?_toArray];exact rfl) (fun K9 Ky=>?_) AllReadyH.nil);go_simp;refine(snodeOf_any s1 s2 s3 n1 e1 n2 e2 n3 e3 s xn _ (HS.out.kept J.out) HL.out).mono ?_;rintro e w2 ⟨b1,k1,d1,b2,k2,d2,b3,k3,d3,rfl,hn,kk⟩;have HTA:=lH hn.taints;have J:=lH (J.out.trans kk);have JR:=lH (JR.out.trans kk);clear kk hn;unfold NodV;refine Ky.out _ _ (HF.out _ J.out) (fun _=>?_);clear Ky K9;try simp only  [Act.put,List.setIfInBounds_toArray,List.set_cons_zero,List.set_cons_succ]
    have hfd:=fun W=>nfield3 (nodeZ s xn).name (.slice b1 k1 d1) (.slice b2 k2 d2) (.slice b3 k3 d3) (nodeZ s xn).cordon W;refine wpAnyH_take  (i:=7) (v:=?_) (by rw[List.getElem?_toArray];exact rfl) (by kernel_rfl) (by kernel_rfl) (by kernel_rfl) (by exact fun _ _ _ h=>h) (Or.inl ⟨by rfl,(by rintro W ⟨o0,o1,o2,o3,o4,o5,o6,o7,o8,o9,o10,o11,o12,o13⟩;go_simp<;>with_reducible rfl)⟩) (by assumption) ?_;try simp only  [Act.put,List.setIfInBounds_toArray,List.set_cons_zero,List.set_cons_succ]
    clear hfd;obtain⟨sf,hsf⟩:∃q,softN p.tols (nodeZ s xn).taints=q:=⟨_,rfl⟩
    have HSF:=lH (show (sf:Int)=softS s p xn by unfold softS;rw[hsf]);refine wpAnyH_ready  (rs:=[8]) (by kernel_rfl) (by simp) (AllReadyH.cons  (by rw[List.getElem?_toArray];exact rfl) (fun K9 Ky=>?_) AllReadyH.nil);go_simp;refine(softR (HP.out.kept J.out).tols HTA.out hsf).mono ?_;rintro e w3 ⟨rfl,kk⟩;have J:=lH (J.out.trans kk);have JR:=lH (JR.out.trans kk);clear kk hsf HTA;refine Ky.out _ _ (HF.out _ J.out) (fun _=>?_);clear Ky K9;try simp only  [Act.put,List.setIfInBounds_toArray,List.set_cons_zero,List.set_cons_succ]
    refine wpAnyH_ready  (rs:=[12]) (by kernel_rfl) (by simp) (AllReadyH.cons  (by rw[List.getElem?_toArray];exact rfl) (fun K9 Ky=>?_) AllReadyH.nil);go_simp;have HSC:=score_any s1 s2 s3 n1 e1 n2 e2 n3 e3 a1 a2 a3 a4 m1 c1 m2 c2 m3 c3 m4 c4 p s xn w3 (HS.out.kept J.out) HL.out HLB.out (HP.out.kept J.out) HLP.out HXS.out;unfold PodV at HSC;refine HSC.mono ?_;rintro e w4 ⟨r,rfl,hr,hrt,kk⟩;have HR:=lH hr;have HRT:=lH hrt;have J:=lH (J.out.trans kk);have JR:=lH (JR.out.trans kk);clear kk HSC hr hrt;refine Ky.out _ _ (HF.out _ J.out) (fun _=>?_);clear Ky K9;try simp only  [Act.put,List.setIfInBounds_toArray,List.set_cons_zero,List.set_cons_succ]
    refine wpAnyH_take  (i:=13) (v:=?_) (by rw[List.getElem?_toArray];exact rfl) (by kernel_rfl) (by kernel_rfl) (by kernel_rfl) (by exact fun _ _ _ h=>h) (Or.inl ⟨by rfl,(by rintro W ⟨o0,o1,o2,o3,o4,o5,o6,o7,o8,o9,o10,o11,o12,o13⟩;go_simp<;>with_reducible rfl)⟩) (by assumption) ?_;try simp only  [Act.put,List.setIfInBounds_toArray,List.set_cons_zero,List.set_cons_succ]
    refine wpAnyH_ready  (rs:=[14]) (by kernel_rfl) (by simp) (AllReadyH.cons  (by rw[List.getElem?_toArray];exact rfl) (fun K9 Ky=>?_) AllReadyH.nil);go_simp;refine Ky.out _ _ (HF.out _ (J.out.trans (kept_alloc _ _))) (fun _=>?_);clear Ky K9;try simp only  [Act.put,List.setIfInBounds_toArray,List.set_cons_zero,List.set_cons_succ]
    obtain⟨w5,hw5⟩:∃W,w4.alloc (.cells #[.string xn,.int .i64 sf,.float .f64 r] 138)=W:=⟨_,rfl⟩
    have k5:Kept w4 w5:=by rw[←hw5];exact kept_alloc _ _
    have HC5:=lH (show w5.heap[w4.heap.size]?=some (.cells #[.string xn,.int .i64 sf,.float .f64 r] 138) by rw[←hw5];exact World.alloc_heap_new w4 _);have J:=lH (J.out.trans k5);have JR:=lH (JR.out.trans k5);try rw[hw5]
    clear hw5 k5;have HOW2:=lH (show w5.ownsRow w1.heap.size 138 3 u5 m (rowCells MkLay la) by have:=(HO.out.kept JR.out).1;rw[HT.out] at this;exact this);refine wpAnyH_ready  (rs:=[15]) (by kernel_rfl) (by simp) (AllReadyH.cons  (by rw[List.getElem?_toArray];exact rfl) (fun K9 Ky=>?_) AllReadyH.nil);refine step_append_lies _ (by rfl) _ _ _ (by rfl) w1.heap.size 138 i0 _ 3 32 Tryz.underlying90 hi hz0 hz1 hz2' rfl (by decide) u5 m (rowCells MkLay la) (by rfl) HOW2.out ⟨w4.heap.size,0,none⟩ 1 1 (mkC (xn,(sf:Int),r)) (by rfl) (by rfl) (World.news_of_block (cs:=#[.string xn,.int .i64 sf,.float .f64 r]) (t:=138) (fr:=(0,0)) HC5.out) (one_mk (xn,(sf:Int),r)) (by decide) (by unfold maxLen;omega) (by omega) (by have:=JR.out.size;omega) _ rfl ?_;intro gg cap1 w6 hown1 hgrow hat hlt1;have HBW:=lH ((show Below w1.heap.size w1 _ from HK.out.trans JR.out).grown hgrow (by have:=JR.out.size;omega) (fun j hj=>(HOW2.out.lt j hj).1));have HOW:=lH hown1;have J6:=lH (show Kept Z w6 from J1.out.trans HBW.out);clear hgrow hat hlt1 hown1;refine Ky.out _ _ (HF.out _ J6.out) (fun _=>?_);clear Ky K9;try simp only  [Act.put,List.setIfInBounds_toArray,List.set_cons_zero,List.set_cons_succ]
    refine wpAnyH_take  (i:=16) (v:=?_) (by rw[List.getElem?_toArray];exact rfl) (by kernel_rfl) (by kernel_rfl) (by kernel_rfl) (by exact fun _ _ _ h=>h) (Or.inl ⟨by rfl,(by rintro W ⟨o0,o1,o2,o3,o4,o5,o6,o7,o8,o9,o10,o11,o12,o13⟩;go_simp<;>with_reducible rfl)⟩) (by assumption) ?_;try simp only  [Act.put,List.setIfInBounds_toArray,List.set_cons_zero,List.set_cons_succ]
    refine wpAnyH_done (by kernel_rfl) ?_ _;go_wp2;go_roundw
    case rel=>exact⟨k+1,by omega,by go_num,la++[(xn,(sf:Int),r)],by rw[HWT.out];exact HX.out.snoc HSF.out HR.out,Own.snoc HOW.out (by rw[HT.out]) HO.out.2 ⟨HXS.out,HRT.out⟩,HBW.out⟩
    case measure=>simp[intOf];omega
  · have hge:¬(k:Int)<(n9:Int):=by omega
    have HE:=lH (show Tells s p names la by have:=hla;rw[List.take_of_length_le (by rw[HN9.out];omega)] at this;exact this);clear hla ho hm hK;go_wp2;go_ret;exact⟨_,rfl,la,HO.out.reads,by rw[HNM9.out];exact HE.out,K.out.trans (J1.out.trans HK.out)⟩
end Go.Proofs.YtmlgobiifebjkacGreat
namespace Go.Proofs.YtmlgobiifebjkacGreat
open Go.RowKit
attribute [local go_sem] run_store_float
theorem cscore_any (pack:Bool) (x y:Nat) (w:World):Calls Tryz.prog 103 #[.float .f64 x,.float .f64 y,.bool pack] w fun e w'=>e=.returned (.int .i64 (cpM pack x y))∧Grw w w':=by
 cases pack with
 | true =>
  have HC:=lH (compare_any y x w);have HV:=lH (show cpM true x y=cp y x from rfl);go_enter Tryz.func103,Tryz.ntmps103;go_wp2_with fail
  refine HC.out.mono ?_;rintro e w1 ⟨rfl,c,t,rfl⟩;go_wp2;go_ret;exact⟨ret_i64 HV.out.symm,Grw.alloc _ _⟩
 | false =>
  have HC:=lH (compare_any x y w);have HV:=lH (show cpM false x y=cp x y from rfl);go_enter Tryz.func103,Tryz.ntmps103;go_wp2_with fail
  refine HC.out.mono ?_;rintro e w1 ⟨rfl,c,t,rfl⟩;go_wp2;go_ret;exact⟨ret_i64 HV.out.symm,Grw.alloc _ _⟩
theorem three_ints (W:World) (x y z:Int) (T:TypeId) (i:Nat) (u:Int) (hi:([x,y,z]:List Int)[i]?=some u):(W.alloc (.cells #[.int .i64 x,.int .i64 y,.int .i64 z] T)).cell? ⟨W.heap.size,i,none⟩=some (.int .i64 u):=by
 refine(freshN W (.int .i64 x) [.int .i64 y,.int .i64 z] T _ (Kept.refl _)).at_ i _ ?_
 match i,hi with
 | 0,h=>simpa using h
 | 1,h=>simpa using h
 | 2,h=>simpa using h
 | j+3,h=>simp at h
theorem mcompare_any (pack:Bool) (a1 b1:ByteArray) (a2 b2:Int) (a3 b3:Nat) (w:World):Calls Tryz.prog 71 #[.agg #[.string a1,.int .i64 a2,.float .f64 a3],.agg #[.string b1,.int .i64 b2,.float .f64 b3],.bool pack] w fun e w'=>e=.returned (.int .i64 (cfM pack (a1,a2,a3) (b1,b2,b3)))∧Grw w w':=by
 obtain⟨Z,hZ⟩:∃Z,(w.alloc (.cells #[.string a1,.int .i64 a2,.float .f64 a3] 138)).alloc (.cells #[.string b1,.int .i64 b2,.float .f64 b3] 138)=Z:=⟨_,rfl⟩
 have hkz:Kept w Z:=by rw[←hZ];exact kept_two _ _ _
 have HG:=lH (show Grw w Z by rw[←hZ];exact(Grw.alloc _ _).trans (Grw.alloc _ _));have HB1:=lH (freshN w (.string a1) [.int .i64 a2,.float .f64 a3] 138 Z (by rw[←hZ];exact kept_alloc _ _));have HB2:=lH (show CellsN (w.heap.size+1) [.string b1,.int .i64 b2,.float .f64 b3] Z by
  have dd:=freshN (w.alloc (.cells #[.string a1,.int .i64 a2,.float .f64 a3] 138)) (.string b1) [.int .i64 b2,.float .f64 b3] 138 Z (by rw[hZ];exact Kept.refl _);rw[World.size_alloc] at dd;exact dd)
 have HF:=lH (show ∀W,Kept Z W→W.cell? ⟨w.heap.size,0,none⟩=some (.string a1)∧W.cell? ⟨w.heap.size,1,none⟩=some (.int .i64 a2)∧W.cell? ⟨w.heap.size,2,none⟩=some (.float .f64 a3)∧W.cell? ⟨w.heap.size+1,0,none⟩=some (.string b1)∧W.cell? ⟨w.heap.size+1,1,none⟩=some (.int .i64 b2)∧W.cell? ⟨w.heap.size+1,2,none⟩=some (.float .f64 b3) from fun W kk=>by
  have h:=HB1.out.kept kk;have q:=HB2.out.kept kk;exact⟨h.at_ 0 _ rfl,h.at_ 1 _ rfl,h.at_ 2 _ rfl,q.at_ 0 _ rfl,q.at_ 1 _ rfl,q.at_ 2 _ rfl⟩)
 obtain⟨x,hx⟩:∃x,cmpI a2 b2=x:=⟨_,rfl⟩
 obtain⟨y,hy⟩:∃x,cpM pack a3 b3=x:=⟨_,rfl⟩
 obtain⟨z,hz⟩:∃x,cmpS a1 b1=x:=⟨_,rfl⟩
 have HV:=lH (show cfM pack (a1,a2,a3) (b1,b2,b3)=orL [x,y,z] by
  show (if cmpI a2 b2≠0 then cmpI a2 b2 else if cpM pack a3 b3≠0 then cpM pack a3 b3 else cmpS a1 b1)=_;rw[hx,hy,hz];show _=if x≠0 then x else if y≠0 then y else if z≠0 then z else 0
  by_cases q:z=0
  · subst q;simp
  · rw[if_pos q])
 have EI:=lH (fun W=>cmpI_any a2 b2 W);have EC:=lH (fun W=>cscore_any pack a3 b3 W);have ES:=lH (fun W=>cmpS_any a1 b1 W);rw[hx] at EI;rw[hy] at EC;rw[hz] at ES;clear hx hy hz hkz;go_enter Tryz.func71,Tryz.ntmps71;go_upto_region 1 with fail
 try rw[hZ]
 clear hZ;have J:=lH (Grw.drewN Z 1);refine wp_region_held_drew (S:=fun W=>W.cell? ⟨w.heap.size,0,none⟩=some (.string a1)∧W.cell? ⟨w.heap.size,1,none⟩=some (.int .i64 a2)∧W.cell? ⟨w.heap.size,2,none⟩=some (.float .f64 a3)∧W.cell? ⟨w.heap.size+1,0,none⟩=some (.string b1)∧W.cell? ⟨w.heap.size+1,1,none⟩=some (.int .i64 b2)∧W.cell? ⟨w.heap.size+1,2,none⟩=some (.float .f64 b3)) (by kernel_rfl) (HF.out _ J.out.kept) (fun hHeld=>?_);obtain⟨wd,hwd⟩:∃W,Z.drew=W:=⟨_,rfl⟩
 rw[show Z.drewN 1=wd from hwd] at J;rw[hwd] at hHeld;try rw[hwd]
 clear hwd;refine wpAnyH_take  (i:=0) (v:=?_) (by rw[List.getElem?_toArray];exact rfl) (by kernel_rfl) (by kernel_rfl) (by kernel_rfl) (by exact fun _ _ _ h=>h) (Or.inl ⟨by rfl,(by rintro W ⟨o0,o1,o2,o3,o4,o5⟩;go_simp<;>with_reducible rfl)⟩) (by assumption) ?_;try simp only  [Act.put,List.setIfInBounds_toArray,List.set_cons_zero,List.set_cons_succ]
 refine wpAnyH_take  (i:=1) (v:=?_) (by rw[List.getElem?_toArray];exact rfl) (by kernel_rfl) (by kernel_rfl) (by kernel_rfl) (by exact fun _ _ _ h=>h) (Or.inl ⟨by rfl,(by rintro W ⟨o0,o1,o2,o3,o4,o5⟩;go_simp<;>with_reducible rfl)⟩) (by assumption) ?_;try simp only  [Act.put,List.setIfInBounds_toArray,List.set_cons_zero,List.set_cons_succ]
 refine wpAnyH_take  (i:=2) (v:=?_) (by rw[List.getElem?_toArray];exact rfl) (by kernel_rfl) (by kernel_rfl) (by kernel_rfl) (by exact fun _ _ _ h=>h) (Or.inl ⟨by rfl,(by rintro W ⟨o0,o1,o2,o3,o4,o5⟩;go_simp<;>with_reducible rfl)⟩) (by assumption) ?_;try simp only  [Act.put,List.setIfInBounds_toArray,List.set_cons_zero,List.set_cons_succ]
 refine wpAnyH_take  (i:=3) (v:=?_) (by rw[List.getElem?_toArray];exact rfl) (by kernel_rfl) (by kernel_rfl) (by kernel_rfl) (by exact fun _ _ _ h=>h) (Or.inl ⟨by rfl,(by rintro W ⟨o0,o1,o2,o3,o4,o5⟩;go_simp<;>with_reducible rfl)⟩) (by assumption) ?_;try simp only  [Act.put,List.setIfInBounds_toArray,List.set_cons_zero,List.set_cons_succ]
 refine wpAnyH_take  (i:=5) (v:=?_) (by rw[List.getElem?_toArray];exact rfl) (by kernel_rfl) (by kernel_rfl) (by kernel_rfl) (by exact fun _ _ _ h=>h) (Or.inl ⟨by rfl,(by rintro W ⟨o0,o1,o2,o3,o4,o5⟩;go_simp<;>with_reducible rfl)⟩) (by assumption) ?_;try simp only  [Act.put,List.setIfInBounds_toArray,List.set_cons_zero,List.set_cons_succ]
 refine wpAnyH_take  (i:=6) (v:=?_) (by rw[List.getElem?_toArray];exact rfl) (by kernel_rfl) (by kernel_rfl) (by kernel_rfl) (by exact fun _ _ _ h=>h) (Or.inl ⟨by rfl,(by rintro W ⟨o0,o1,o2,o3,o4,o5⟩;go_simp<;>with_reducible rfl)⟩) (by assumption) ?_;try simp only  [Act.put,List.setIfInBounds_toArray,List.set_cons_zero,List.set_cons_succ]
 refine wpAnyH_take  (i:=7) (v:=?_) (by rw[List.getElem?_toArray];exact rfl) (by kernel_rfl) (by kernel_rfl) (by kernel_rfl) (by exact fun _ _ _ h=>h) (Or.inl ⟨by rfl,(by rintro W ⟨o0,o1,o2,o3,o4,o5⟩;go_simp<;>with_reducible rfl)⟩) (by assumption) ?_;try simp only  [Act.put,List.setIfInBounds_toArray,List.set_cons_zero,List.set_cons_succ]
 refine wpAnyH_take  (i:=8) (v:=?_) (by rw[List.getElem?_toArray];exact rfl) (by kernel_rfl) (by kernel_rfl) (by kernel_rfl) (by exact fun _ _ _ h=>h) (Or.inl ⟨by rfl,(by rintro W ⟨o0,o1,o2,o3,o4,o5⟩;go_simp<;>with_reducible rfl)⟩) (by assumption) ?_;try simp only  [Act.put,List.setIfInBounds_toArray,List.set_cons_zero,List.set_cons_succ]
 refine wpAnyH_take  (i:=9) (v:=?_) (by rw[List.getElem?_toArray];exact rfl) (by kernel_rfl) (by kernel_rfl) (by kernel_rfl) (by exact fun _ _ _ h=>h) (Or.inl ⟨by rfl,(by rintro W ⟨o0,o1,o2,o3,o4,o5⟩;go_simp<;>with_reducible rfl)⟩) (by assumption) ?_;try simp only  [Act.put,List.setIfInBounds_toArray,List.set_cons_zero,List.set_cons_succ]
 refine wpAnyH_take  (i:=11) (v:=?_) (by rw[List.getElem?_toArray];exact rfl) (by kernel_rfl) (by kernel_rfl) (by kernel_rfl) (by exact fun _ _ _ h=>h) (Or.inl ⟨by rfl,(by rintro W ⟨o0,o1,o2,o3,o4,o5⟩;go_simp<;>with_reducible rfl)⟩) (by assumption) ?_;try simp only  [Act.put,List.setIfInBounds_toArray,List.set_cons_zero,List.set_cons_succ]
 refine wpAnyH_take  (i:=12) (v:=?_) (by rw[List.getElem?_toArray];exact rfl) (by kernel_rfl) (by kernel_rfl) (by kernel_rfl) (by exact fun _ _ _ h=>h) (Or.inl ⟨by rfl,(by rintro W ⟨o0,o1,o2,o3,o4,o5⟩;go_simp<;>with_reducible rfl)⟩) (by assumption) ?_;try simp only  [Act.put,List.setIfInBounds_toArray,List.set_cons_zero,List.set_cons_succ]
 refine wpAnyH_take  (i:=13) (v:=?_) (by rw[List.getElem?_toArray];exact rfl) (by kernel_rfl) (by kernel_rfl) (by kernel_rfl) (by exact fun _ _ _ h=>h) (Or.inl ⟨by rfl,(by rintro W ⟨o0,o1,o2,o3,o4,o5⟩;go_simp<;>with_reducible rfl)⟩) (by assumption) ?_;try simp only  [Act.put,List.setIfInBounds_toArray,List.set_cons_zero,List.set_cons_succ]
 refine wpAnyH_take  (i:=14) (v:=?_) (by rw[List.getElem?_toArray];exact rfl) (by kernel_rfl) (by kernel_rfl) (by kernel_rfl) (by exact fun _ _ _ h=>h) (Or.inl ⟨by rfl,(by rintro W ⟨o0,o1,o2,o3,o4,o5⟩;go_simp<;>with_reducible rfl)⟩) (by assumption) ?_;try simp only  [Act.put,List.setIfInBounds_toArray,List.set_cons_zero,List.set_cons_succ]
 refine wpAnyH_ready  (rs:=[4]) (by kernel_rfl) (by simp) (AllReadyH.cons  (by rw[List.getElem?_toArray];exact rfl) (fun K9 Ky=>?_) AllReadyH.nil);go_simp;refine(EI.out _).mono ?_;rintro e w1 ⟨rfl,rfl⟩;refine Ky.out _ _ (HF.out _ J.out.kept) (fun _=>?_);clear Ky K9;try simp only  [Act.put,List.setIfInBounds_toArray,List.set_cons_zero,List.set_cons_succ]
 refine wpAnyH_ready  (rs:=[10]) (by kernel_rfl) (by simp) (AllReadyH.cons  (by rw[List.getElem?_toArray];exact rfl) (fun K9 Ky=>?_) AllReadyH.nil);go_simp;refine(EC.out _).mono ?_;rintro e w2 ⟨rfl,kk⟩;have J:=lH (J.out.trans kk);clear kk;refine Ky.out _ _ (HF.out _ J.out.kept) (fun _=>?_);clear Ky K9;try simp only  [Act.put,List.setIfInBounds_toArray,List.set_cons_zero,List.set_cons_succ]
 refine wpAnyH_ready  (rs:=[15]) (by kernel_rfl) (by simp) (AllReadyH.cons  (by rw[List.getElem?_toArray];exact rfl) (fun K9 Ky=>?_) AllReadyH.nil);go_simp;refine(ES.out _).mono ?_;rintro e w3 ⟨rfl,rfl⟩;refine Ky.out _ _ (HF.out _ J.out.kept) (fun _=>?_);clear Ky K9;try simp only  [Act.put,List.setIfInBounds_toArray,List.set_cons_zero,List.set_cons_succ]
 refine wpAnyH_ready  (rs:=[16]) (by kernel_rfl) (by simp) (AllReadyH.cons  (by rw[List.getElem?_toArray];exact rfl) (fun K9 Ky=>?_) AllReadyH.nil);go_simp;refine Ky.out _ _ (HF.out _ (J.out.trans (Grw.alloc _ _)).kept) (fun _=>?_);clear Ky K9;try simp only  [Act.put,List.setIfInBounds_toArray,List.set_cons_zero,List.set_cons_succ]
 have HOR:=lH (show Calls Tryz.prog 44 #[.slice (some ⟨w2.heap.size,0,none⟩) 3 3] (w2.alloc (.cells #[.int .i64 x,.int .i64 y,.int .i64 z] 3)) _ from orI_any w2.heap.size 3 [x,y,z] _ rfl (by decide) (three_ints w2 x y z 3));obtain⟨w4,hw4⟩:∃W,w2.alloc (.cells #[.int .i64 x,.int .i64 y,.int .i64 z] 3)=W:=⟨_,rfl⟩
 have J:=lH (show Grw Z w4 by rw[←hw4];exact J.out.trans (Grw.alloc _ _));rw[hw4] at HOR;try rw[hw4]
 clear hw4;refine wpAnyH_ready  (rs:=[17]) (by kernel_rfl) (by simp) (AllReadyH.cons  (by rw[List.getElem?_toArray];exact rfl) (fun K9 Ky=>?_) AllReadyH.nil);go_simp;refine HOR.out.mono ?_;rintro e w5 ⟨rfl,rfl⟩;refine Ky.out _ _ (HF.out _ J.out.kept) (fun _=>?_);clear Ky K9;try simp only  [Act.put,List.setIfInBounds_toArray,List.set_cons_zero,List.set_cons_succ]
 refine wpAnyH_take  (i:=18) (v:=?_) (by rw[List.getElem?_toArray];exact rfl) (by kernel_rfl) (by kernel_rfl) (by kernel_rfl) (by exact fun _ _ _ h=>h) (Or.inl ⟨by rfl,(by rintro W ⟨o0,o1,o2,o3,o4,o5⟩;go_simp<;>with_reducible rfl)⟩) (by assumption) ?_;try simp only  [Act.put,List.setIfInBounds_toArray,List.set_cons_zero,List.set_cons_succ]
 refine wpAnyH_done (by kernel_rfl) ?_ _;go_wp2;go_ret;exact⟨ret_i64 HV.out.symm,HG.out.trans J.out⟩
theorem mclosure_any (q:Nat) (pack:Bool) (a1 b1:ByteArray) (a2 b2:Int) (a3 b3:Nat) (w:World) (hq:w.cell? ⟨q,0,none⟩=some (.bool pack)):Calls Tryz.prog 70 #[.agg #[.string a1,.int .i64 a2,.float .f64 a3],.agg #[.string b1,.int .i64 b2,.float .f64 b3],.pointer (some ⟨q,0,none⟩)] w fun e w'=>e=.returned (.int .i64 (cfM pack (a1,a2,a3) (b1,b2,b3)))∧Grw w w':=by
 obtain⟨Z,hZ⟩:∃Z,(w.alloc (.cells #[.string a1,.int .i64 a2,.float .f64 a3] 138)).alloc (.cells #[.string b1,.int .i64 b2,.float .f64 b3] 138)=Z:=⟨_,rfl⟩
 have hkz:Kept w Z:=by rw[←hZ];exact kept_two _ _ _
 have HG:=lH (show Grw w Z by rw[←hZ];exact(Grw.alloc _ _).trans (Grw.alloc _ _));have hb1:=freshN w (.string a1) [.int .i64 a2,.float .f64 a3] 138 Z (by rw[←hZ];exact kept_alloc _ _);have hb2:CellsN (w.heap.size+1) [.string b1,.int .i64 b2,.float .f64 b3] Z:=by
  have dd:=freshN (w.alloc (.cells #[.string a1,.int .i64 a2,.float .f64 a3] 138)) (.string b1) [.int .i64 b2,.float .f64 b3] 138 Z (by rw[hZ];exact Kept.refl _);rw[World.size_alloc] at dd;exact dd
 have hq2:=cell_later hkz hq;have HC:=lH (mcompare_any pack a1 b1 a2 b2 a3 b3 Z);have y0:=hb1.at_ 0 _ rfl;have y1:=hb1.at_ 1 _ rfl;have y2:=hb1.at_ 2 _ rfl;have z0:=hb2.at_ 0 _ rfl;have z1:=hb2.at_ 1 _ rfl;have z2:=hb2.at_ 2 _ rfl;clear hb1 hb2 hq hkz;go_enter Tryz.func70,Tryz.ntmps70;go_wp2_with fail
 try rw[hZ]
 clear hZ;refine HC.out.mono ?_;rintro e w1 ⟨rfl,kk⟩;have J:=lH (HG.out.trans kk);clear kk HC y0 y1 y2 z0 z1 z2 hq2;go_wp2;go_ret;exact⟨rfl,J.out⟩
end Go.Proofs.YtmlgobiifebjkacGreat
namespace Go.Proofs.YtmlgobiifebjkacGreat
open Go.Shelf
def sortMk_ren:Go.Shelf.Ren:=⟨fun | 6=>101 | 15=>141 | 14=>140 | 28=>165 | 29=>166 | 20=>157 | 21=>158 | 22=>159 | 23=>160 | 24=>161 | 25=>162 | 26=>163 | 27=>164 | 46=>180 | 47=>181 | 48=>182 | 49=>183 | 50=>184 | 57=>202 | n=>n,fun | 22=>90 | 24=>138 | 25=>143 | 3=>3 | 39=>215 | 0=>0 | 53=>239 | 55=>166 | 4=>4 | 46=>233 | 45=>232 | 50=>219 | 5=>5 | 9=>9 | 66=>251 | 70=>255 | 76=>275 | 77=>276 | n=>n,fun | n=>n⟩
theorem sortMk:Go.Proofs.SlLaysF0.n6 Tryz.prog sortMk_ren:={
 mixed:=by kernel_rfl
 f6:=⟨Tryz.f101.name,by decide,Tryz.func101.trans (congrArg some (by kernel_rfl))⟩
 f14:=⟨Tryz.f140.name,by decide,Tryz.func140.trans (congrArg some (by kernel_rfl))⟩
 f15:=Tryz.func141.trans (congrArg some (by kernel_rfl))
 f20:=⟨Tryz.f157.name,by decide,Tryz.func157.trans (congrArg some (by kernel_rfl))⟩
 f21:=⟨Tryz.f158.name,by decide,Tryz.func158.trans (congrArg some (by kernel_rfl))⟩
 f22:=⟨Tryz.f159.name,by decide,Tryz.func159.trans (congrArg some (by kernel_rfl))⟩
 f23:=⟨Tryz.f160.name,by decide,Tryz.func160.trans (congrArg some (by kernel_rfl))⟩
 f24:=⟨Tryz.f161.name,by decide,Tryz.func161.trans (congrArg some (by kernel_rfl))⟩
 f25:=⟨Tryz.f162.name,by decide,Tryz.func162.trans (congrArg some (by kernel_rfl))⟩
 f26:=⟨Tryz.f163.name,by decide,Tryz.func163.trans (congrArg some (by kernel_rfl))⟩
 f27:=⟨Tryz.f164.name,by decide,Tryz.func164.trans (congrArg some (by kernel_rfl))⟩
 f28:=Tryz.func165.trans (congrArg some (by kernel_rfl))
 f29:=Tryz.func166.trans (congrArg some (by kernel_rfl))
 f46:=⟨Tryz.f180.name,by decide,Tryz.func180.trans (congrArg some (by kernel_rfl))⟩
 f47:=Tryz.func181.trans (congrArg some (by kernel_rfl))
 f48:=Tryz.func182.trans (congrArg some (by kernel_rfl))
 f49:=⟨Tryz.f183.name,by decide,Tryz.func183.trans (congrArg some (by kernel_rfl))⟩
 f50:=⟨Tryz.f184.name,by decide,Tryz.func184.trans (congrArg some (by kernel_rfl))⟩
 f57:=⟨Tryz.f202.name,by decide,Tryz.func202.trans (congrArg some (by kernel_rfl))⟩
 t0:=Tryz.underlying0
 a0:=Tryz.isAgg0
 z0:=Tryz.sizeOf0
 v0:=Tryz.zeroValue0
 t3:=Tryz.underlying3
 a3:=Tryz.isAgg3
 z3:=Tryz.sizeOf3
 v3:=Tryz.zeroValue3
 t4:=Tryz.underlying4
 a4:=Tryz.isAgg4
 z4:=Tryz.sizeOf4
 v4:=Tryz.zeroValue4
 t5:=Tryz.underlying5
 a5:=Tryz.isAgg5
 z5:=Tryz.sizeOf5
 v5:=Tryz.zeroValue5
 t9:=Tryz.underlying9
 a9:=Tryz.isAgg9
 z9:=Tryz.sizeOf9
 v9:=Tryz.zeroValue9
 t22:=Tryz.underlying90
 a22:=Tryz.isAgg90
 z22:=Tryz.sizeOf90
 v22:=Tryz.zeroValue90
 t25:=Tryz.underlying143
 a25:=Tryz.isAgg143
 z25:=Tryz.sizeOf143
 v25:=Tryz.zeroValue143
 t39:=Tryz.underlying215
 a39:=Tryz.isAgg215
 z39:=Tryz.sizeOf215
 v39:=Tryz.zeroValue215
 t45:=Tryz.underlying232
 a45:=Tryz.isAgg232
 z45:=Tryz.sizeOf232
 v45:=Tryz.zeroValue232
 t46:=Tryz.underlying233
 a46:=Tryz.isAgg233
 z46:=Tryz.sizeOf233
 v46:=Tryz.zeroValue233
 t50:=Tryz.underlying219
 a50:=Tryz.isAgg219
 z50:=Tryz.sizeOf219
 v50:=Tryz.zeroValue219
 t53:=Tryz.underlying239
 a53:=Tryz.isAgg239
 z53:=Tryz.sizeOf239
 v53:=Tryz.zeroValue239
 t55:=Tryz.underlying166
 a55:=Tryz.isAgg166
 z55:=Tryz.sizeOf166
 v55:=Tryz.zeroValue166
 t66:=Tryz.underlying251
 a66:=Tryz.isAgg251
 z66:=Tryz.sizeOf251
 v66:=Tryz.zeroValue251
 t70:=Tryz.underlying255
 a70:=Tryz.isAgg255
 z70:=Tryz.sizeOf255
 v70:=Tryz.zeroValue255
 t76:=Tryz.underlying275
 a76:=Tryz.isAgg275
 z76:=Tryz.sizeOf275
 v76:=Tryz.zeroValue275
 t77:=Tryz.underlying276
 a77:=Tryz.isAgg276
 z77:=Tryz.sizeOf276
 v77:=Tryz.zeroValue276 }
open Go.RowKit Go.Shelf Go.Lib Go.Sort
theorem ltOf_cfM (pack:Bool) (x y:Mk):ltOf (cfM pack) x y=mkAhead pack x y:=by
 unfold ltOf
 cases h:mkAhead pack x y with
 | true=>exact decide_eq_true ((cfM_neg pack x y).2 h)
 | false=>exact decide_eq_false (fun e=>by rw[(cfM_neg pack x y).1 e] at h;cases h)
theorem swo_cfM (pack:Bool):SWO (ltOf (cfM pack)) where
 irrefl x:=by rw[ltOf_cfM];exact aheadK_irrefl _ _ _ _
 trans x y z h1 h2:=by rw[ltOf_cfM] at *;exact aheadK_trans h1 h2
 ntrans x y z h1 h2:=by rw[ltOf_cfM] at *;exact aheadK_ntrans h1 h2
theorem enters_names1:∀args w,(callFunc 70 args).run Tryz.prog w=.ok (.enter 70 args) w:=enters_of Tryz.func70 (by kernel_rfl) rfl
theorem mcmp_lays (q:Nat) (pack:Bool) (blk size:Nat) (w:World) (hq:w.cell? ⟨q,0,none⟩=some (.bool pack)) (hne:q≠blk) (hlt:q<w.heap.size):CmpLays Tryz.prog 70 #[.pointer (some ⟨q,0,none⟩)] mkC 3 (cfM pack) blk 0 size w:=fun m os dk hs x y=>by
 refine mclosure_any q pack x.1 y.1 x.2.1 y.2.1 x.2.2 y.2.2 _ ?_;show (grow (putRowK mkC 3 (Sort.ahead w m) blk 0 dk) os).cell? ⟨q,0,none⟩=_;rw[cell?_grow _ _ _ (by rw[size_putRowK];exact hlt),cell?_putRowK_other mkC 3 _ blk 0 dk ⟨q,0,none⟩ hne];exact hq
theorem below_swK {B:Nat} {w0 w:World} {blk n:Nat} {d:Array Mk} {os:Array Obj} (h:Go.RowKit.Below B w0 w) (hg:B≤blk) (hB:B≤w.heap.size):Go.RowKit.Below B w0 (sortWorldK mkC 3 w blk 0 n d os):=by
 unfold sortWorldK;refine(below_putRow (enc:=id) (q:=n) (d:=flatK mkC 3 d) h hg).trans ?_;exact below_grow B (putRowK mkC 3 (Sort.ahead w n) blk 0 d) (by rw[size_putRowK];exact hB) 0 os
theorem holdsK_own {W:World} {base:Nat} {v:Value} {zs:List Mk} (h:OwnM base W v zs) (hv:v≠.slice none 0 0):∃g cap,v=.slice (some ⟨g,0,none⟩) zs.length cap∧base≤g∧g<W.heap.size∧zs.length≤cap∧cap≤maxLen∧HoldsK mkC 3 W g 0 zs.toArray:=by
 rcases h.1.2 with ⟨e0,_⟩ | ⟨g,cap,cur,rfl,hb,hg,hn,hm,hs,ht⟩
 · exact absurd e0 hv
 · have hlt:g<W.heap.size:=by
    rcases Nat.lt_or_ge g W.heap.size with h' | h'
    · exact h'
    · rw[Array.getElem?_eq_none h'] at hg;cases hg
   refine⟨g,cap,rfl,hb,hlt,hn,hm,fun t htl=>?_⟩;have htl2:t<zs.length*3:=by simpa using htl
   have h3:t / 3<zs.length:=by omega
   have h4:t % 3<3:=Nat.mod_lt _ (by decide);refine⟨?_,by simp[World.frozen?,hg]⟩;rw[get_flatK _ _ _ _ (by simpa using htl2)];have e2:=rowCells_at MkLay zs (t / 3) zs[t / 3] (t % 3) ((mkC zs[t / 3])[t % 3]'h4) (List.getElem?_eq_getElem h3) (List.getElem?_eq_getElem h4);have e1:(cur.toList.take (zs.length*3))[t]?=(rowCells MkLay zs)[t]?:=by rw[ht];rfl
   rw[show t / 3*MkLay.m+t % 3=t from by show t / 3*3+t % 3=t;omega] at e2;rw[e2,List.getElem?_take,if_pos htl2,Array.getElem?_toList] at e1;simp only[World.cell?,hg,Nat.zero_add];simp only[Option.isSome_none,Bool.false_eq_true,if_false];rw[e1,getElem!_pos zs.toArray (t / 3) (by simpa using h3),getElem!_pos (mkC _) (t % 3) h4];simp;rfl
theorem row_holdsK {W:World} {g:Nat} {l:List Mk} (h:HoldsK mkC 3 W g 0 l.toArray) (hg:g<W.heap.size) (hm:l.length≤maxLen) (hf:∀x ∈ l,MkLay.fine x):RowAt MkLay W (some ⟨g,0,none⟩) l.length l:=by
 refine⟨rfl,hm,hf,.inr ⟨g,0,rfl,hg,fun i x j u hi hj=>?_⟩⟩;obtain⟨hil,ex⟩:=List.getElem?_eq_some_iff.1 hi;have hj':(mkC x)[j]?=some u:=hj;obtain⟨hjl,eu⟩:=List.getElem?_eq_some_iff.1 hj';have hj3:j<3:=hjl;have:=(h.cell (i:=i) (c:=j) (by simpa using hil) hj3).1;rw[getElem!_pos l.toArray i (by simpa using hil)] at this;simp only[List.getElem_toArray] at this;rw[ex,getElem!_pos (mkC x) j hjl,eu] at this;exact this
def SrtM (pack:Bool) (xs:List Mk) (w:World) (e:Ending) (w':World):Prop:=∃v l,e=.returned v∧l.Perm xs∧(l.Pairwise fun a b=>mkAhead pack b a=false)∧Reads MkLay w' v l∧Kept w w'
theorem sortedFunc_any (q:Nat) (pack:Bool) (Bs:Nat) (sv:Value) (xs:List Mk) (hlen:xs.length≤1000000) (hx:∀x ∈ xs,MkLay.fine x) (w:World) (hq:w.cell? ⟨q,0,none⟩=some (.bool pack)) (hBs:Bs<w.heap.size) (hcs:w.cell? ⟨Bs,0,none⟩=some sv) (hL:Mks w.heap.size w sv xs) :
 Calls Tryz.prog 68 #[.func (.func 102) #[] #[.pointer (some ⟨Bs,0,none⟩)],.func (.func 70) #[] #[.pointer (some ⟨q,0,none⟩)]] w (SrtM pack xs w):=by
 have HC:=lH (mkcollect_any Bs sv xs hlen w hBs hcs hL);have hql:q<w.heap.size:=World.block_lt_of_cell? _ _ hq;have HQ:=lH hq;have HQL:=lH hql;have HX:=lH hx;have HL9:=lH hlen;clear hBs hcs hL hq hql hx hlen;go_enter Tryz.func68,Tryz.ntmps68;go_wp2_with fail
 refine HC.out.mono ?_;rintro e w1 ⟨v,rfl,ho,hb⟩;by_cases hv:v=.slice none 0 0
 · have hxs:=ho.2.1 hv;have HS:=lH (AnyF.slices_SortFunc_none sortMk none 0 (.func (.func 70) #[] #[.pointer (some ⟨q,0,none⟩)]) w1);change Hid (Calls Tryz.prog 101 _ _ _) at HS;subst hv hxs;have HB:=lH hb;clear hb ho;go_wp2_with fail
   refine HS.out.mono ?_;rintro e w2 ⟨rfl,rfl⟩;go_wp2_with fail
   go_ret;exact⟨_,[],rfl,List.Perm.refl _,List.Pairwise.nil,Reads.nil _,HB.out⟩
 · obtain⟨g,cap,rfl,hg1,hg2,hc1,hc2,hH⟩:=holdsK_own ho hv;have hne:q≠g:=by have:=HQL.out;omega
   have hst:=AnyQ.slices_SortFunc sortMk 3 Tryz.isAgg138 Tryz.sizeOf138 mkC (fun _=>rfl) one_mk (cfM pack) (swo_cfM pack) 70 #[.pointer (some ⟨q,0,none⟩)] g 0 cap xs.toArray w1 enters_names1 (mcmp_lays q pack g _ w1 (cell_later hb HQ.out) hne (Nat.lt_of_lt_of_le HQL.out hb.size)) hH hg2 (by have:=HL9.out;simp;omega);change Calls Tryz.prog 101 _ _ _ at hst;have HB:=lH hb;have HS:=lH hst;have HG:=lH hg1;have HG2:=lH hg2;have HH:=lH hH;have HP:=lH (And.intro hc1 hc2);clear hb ho hst hg1 hg2 hH hc1 hc2 hv hne;simp only[List.size_toArray] at HS;go_wp2_with fail
   refine HS.out.mono ?_;rintro e w2 ⟨rfl,d',n,os,hp,hs,hw⟩;have P1:=lH hp;have P2:=lH hs;have P3:=lH hw;clear hp hs hw;go_wp2_with fail
   go_ret;have hsz:d'.size=xs.length:=by simpa using P1.out.1
   have hperm:d'.toList.Perm xs:=by
    have:=P1.out.2.2;simp only[Array.toList_extract,List.extract_eq_take_drop,List.drop_zero,Nat.sub_zero] at this;rw[List.take_of_length_le (by simp;omega),List.take_of_length_le (by simp)] at this;exact this
   have hlen:d'.toList.length=xs.length:=by simpa using hsz
   refine⟨_,d'.toList,rfl,hperm,?_,?_,?_⟩
   · rw[List.pairwise_iff_getElem];intro i j hi hj hij;have h2:=P2.out i j (Nat.zero_le _) hij (by omega);rw[ltOf_cfM,getElem!_pos d' j (by simpa using hj),getElem!_pos d' i (by simpa using hi)] at h2;simpa using h2
   · have hh:HoldsK mkC 3 w2 g 0 d'.toList.toArray:=by
      rw[P3.out];simp only[Array.toArray_toList];exact holdsK_sortWorldK mkC 3 w1 g 0 n xs.toArray d' os HG2.out HH.out (by simpa using hsz)
     have hg3:g<w2.heap.size:=by rw[P3.out];exact lt_sortWorldK mkC 3 w1 g 0 n d' os HG2.out
     refine⟨_,cap,by rw[hlen];rfl,by rw[hlen];exact HP.out.1,HP.out.2,row_holdsK hh hg3 (by rw[hlen];exact Nat.le_trans HP.out.1 HP.out.2) (fun x hx=>HX.out x (hperm.mem_iff.1 hx))⟩
   · rw[P3.out];exact below_swK HB.out HG.out HB.out.size
open Go.RowKit
attribute [local go_sem] run_store_float
theorem RowAt.mark {w:World} {b off len:Nat} {l:List Mk} {k:Nat} (h:RowAt MkLay w (some ⟨b,off,none⟩) len l) (hk:k<len):∃x:Mk,l[k]?=some x∧x.1.size≤maxLen∧w.cell? ⟨b,off+k*3,none⟩=some (.string x.1)∧w.cell? ⟨b,off+k*3+1,none⟩=some (.int .i64 x.2.1)∧w.cell? ⟨b,off+k*3+2,none⟩=some (.float .f64 x.2.2):=by
 obtain⟨x,h1,-,-,h4,h5⟩:=h.cells hk;exact⟨x,h1,h4.1,h5 0 _ rfl,h5 1 _ rfl,h5 2 _ rfl⟩
theorem mnames_any (pack:Bool) (v:Value) (xs:List Mk) (w:World) (hr:Reads MkLay w v xs) (hlen:xs.length≤100000):Calls Tryz.prog 38 #[v,.bool pack] w fun e w'=>∃(y:Value) (l:List Mk),e=.returned y∧l.Perm xs∧(l.Pairwise fun a b=>mkAhead pack b a=false)∧Own StrLay 9 w' w.heap.size y (l.map (·.1))∧Kept w w':=by
 have hmf:=hmfL (P:=Tryz.prog);obtain⟨i0,hi,hz0,hz1,hz2'⟩:=info_parts infoSt;obtain⟨Z,hZ⟩:∃Z,w.alloc (.cells #[.bool pack] 4)=Z:=⟨_,rfl⟩
 have hkz:Kept w Z:=by rw[←hZ];exact kept_alloc _ _
 have hq:Z.cell? ⟨w.heap.size,0,none⟩=some (.bool pack):=by rw[←hZ];simp
 have HR:=lH (hr.kept hkz);have K:=lH hkz;have HF:=lH (hr.fine);obtain⟨a,cap,rfl,-,-,-⟩:=hr;obtain⟨nx,hnx⟩:∃q,xs.length=q:=⟨_,rfl⟩
 obtain⟨Y,hY⟩:∃Y,Z.alloc (.cells #[.slice a nx cap] 90)=Y:=⟨_,rfl⟩
 have hky:Kept Z Y:=by rw[←hY];exact kept_alloc _ _
 have hys:Z.heap.size<Y.heap.size:=by rw[←hY];simp
 have hyc:Y.cell? ⟨Z.heap.size,0,none⟩=some (.slice a nx cap):=by rw[←hY];simp
 have HV:=lH (mkvalues_any a nx cap Z);have HS:=lH (sortedFunc_any w.heap.size pack Z.heap.size (.slice a nx cap) xs (by omega) HF.out Y (cell_later hky hq) hys hyc (by have:=(HR.out.kept hky).mks;rw[hnx] at this;exact this));rw[hY] at HV;rw[hnx];have KY:=lH hky;have HNX:=lH hnx;rw[hnx] at hlen;clear hq hkz hky hys hyc hnx;go_enter Tryz.func38,Tryz.ntmps38;go_wp2_with fail
 try rw[hZ]
 clear hZ;refine HV.out.mono ?_;rintro e w1 ⟨rfl,rfl⟩;clear hY;go_wp2_with fail
 refine HS.out.mono ?_;rintro e w1 ⟨v9,l,rfl,hp,hs,hv,kk⟩;have HPM:=lH hp;have HPW:=lH hs;have K:=lH (K.out.trans (KY.out.trans kk));have hll:l.length=nx:=hp.length_eq.trans HNX.out;obtain⟨wa,wc,rfl,-,-,hrow⟩:=hv;rw[hll] at hrow ⊢;have HWR:=lH hrow;have HLL:=lH hll;clear kk hp hs hrow hll HS HV;have KW:=lH (Kept.refl w1);go_wp2;go_loopw [6,15] (fun v i wr=>∃k:Nat,k≤nx∧i=.int .i64 k∧∃la:List ByteArray,(l.take k).map (·.1)=la∧Own StrLay 9 wr w1.heap.size v la∧Kept w1 wr) (fun _ i _=>nx-(intOf i).toNat)
 case atStart=>exact⟨0,Nat.zero_le _,rfl,[],rfl,Own.nil _ _ _,Kept.refl _⟩
 case round =>
  obtain⟨k,hk,rfl,la,hla,ho,hK⟩:=hrel;have HX:=lH hla;have HO:=lH ho;have HK:=lH hK;obtain⟨m,hm⟩:∃m,la.length=m:=⟨_,rfl⟩
  have hmk:m≤k:=by
   have:=congrArg List.length hla;rw[List.length_map,List.length_take,hm] at this;omega
  have HT:=lH hm;have hbase:w1.heap.size≤wr.heap.size:=hK.size;by_cases hlt:k<nx
  · obtain⟨b9,o9,rfl⟩:=HWR.out.form.resolve_left (by omega);obtain⟨⟨x1,x2,x3⟩,hx,hxs,c0,c1,c2⟩:=(HWR.out.kept hK).mark hlt;dsimp only at hxs c0 c1 c2;have HNM:=lH hxs;have HV:=lH (show (l.take (k+1)).map (·.1)=la++[x1] by rw[List.take_add_one,hx,List.map_append,HX.out];rfl);have hkk:(k:Int)<(nx:Int):=by omega
    have hk0:¬(k:Int)<0:=by omega
    obtain⟨wx,hwx⟩:∃W,wr.alloc (.cells #[.string x1,.int .i64 x2,.float .f64 x3] 138)=W:=⟨_,rfl⟩
    have hkx:Kept wr wx:=by rw[←hwx];exact kept_alloc _ _
    have HNX2:=lH (freshN wr (.string x1) [.int .i64 x2,.float .f64 x3] 138 wx (by rw[hwx];exact Kept.refl _));obtain⟨bq,hbq⟩:∃z,wr.heap.size=z:=⟨_,rfl⟩
    rw[hbq] at HNX2;have KX:=lH hkx;go_upto_region 6 with fail
    try rw[hwx]
    try rw[hbq]
    clear hwx hbq hx hxs hkx hk0 hkk hla ho hm hK c0 c1 c2;have t0:=HNX2.out.at_ 0 _ rfl;have HOW2:=lH (show wx.ownsRow w1.heap.size 9 1 u6 m (rowCells StrLay la) by have:=(HO.out.kept KX.out).1;rw[HT.out] at this;exact this);have hs1:wr.heap.size≤wx.heap.size:=Below.size KX.out;go_wp2_with (at_builtin;refine wpList_append_lies _ rfl _ _ _ rfl w1.heap.size 9 i0 _ 1 16 Tryz.underlying47 hi hz0 hz1 hz2' rfl (by decide) u6 m (rowCells StrLay la) rfl (HOW2.out.alloc _) ⟨wx.heap.size,0,none⟩ 1 1 (StrLay.cs x1) rfl rfl (World.news_of_block (cs:=#[.string x1]) (t:=9) (fr:=(0,0)) (heap_alloc_new wx _)) (one_str0 x1) (by decide) (by unfold maxLen;omega) (by omega) (by simp;omega) (wx.heap.size+1) (by simp) ?_;intro gg cap1 w4 hown1 hgrow hat hlt1)
    have HBW:=lH ((show Below w1.heap.size w1 _ from HK.out.trans (KX.out.trans (kept_alloc wx _))).grown hgrow (by simp;omega) (fun j hj=>(HOW2.out.lt j hj).1));go_wp2;go_roundw
    case rel=>exact⟨k+1,by omega,by go_num,la++[x1],HV.out,Own.snoc hown1 (by rw[HT.out]) HO.out.2 HNM.out,HBW.out⟩
    case measure=>simp[intOf];omega
  · have hge:¬(k:Int)<(nx:Int):=by omega
    have HE:=lH (show l.map (·.1)=la by rw[←hla,List.take_of_length_le (by rw[HLL.out];omega)]);clear hla ho hm hK;go_wp2;go_ret;exact⟨_,rfl,l,HPM.out,HPW.out,by rw[HE.out];exact HO.out.base_le K.out.size,K.out.trans HK.out⟩
end Go.Proofs.YtmlgobiifebjkacGreat
namespace Go.Proofs.YtmlgobiifebjkacGreat
open Go.RowKit
theorem ord_of {s:Clu} {p:Pd} {pack:Bool} {xs l:List Mk} (ht:Tells s p (fitsL s p s.nodes) xs) (hp:l.Perm xs) (hs:l.Pairwise fun a b=>mkAhead pack b a=false):OrdS s p pack (l.map (·.1)):=by
 refine⟨by rw[←ht.1];exact hp.map _,?_⟩;rw[List.pairwise_map];refine List.Pairwise.imp_of_mem (fun {a b} ha hb h=>?_) hs;have h1:=ht.2 a (hp.mem_iff.1 ha);have h2:=ht.2 b (hp.mem_iff.1 hb);unfold aheadS;rw[←h1.1,←h1.2,←h2.1,←h2.2];exact h
def OrdR (s:Clu) (p:Pd) (pack:Bool) (w:World) (e:Ending) (w':World):Prop:=∃(v:Value) (l:List ByteArray),e=.returned v∧OrdS s p pack l∧Own StrLay 9 w' w.heap.size v l∧Kept w w'
def ChoR (s:Clu) (p:Pd) (pack:Bool) (w:World) (e:Ending) (w':World):Prop:=∃l:List ByteArray,OrdS s p pack l∧e=.returned (.tuple #[.string (l.headD ⟨#[]⟩),.bool (!l.isEmpty)])∧Kept w w'
theorem order_any (s1 s2 s3:Option Addr) (n1 e1 n2 e2 n3 e3:Nat) (a1 a2 a3 a4:Option Addr) (m1 c1 m2 c2 m3 c3 m4 c4:Nat) (pack:Bool) (p:Pd) (s:Clu) (w:World) (hs:CluR w (CluV (.slice s1 n1 e1) (.slice s2 n2 e2) (.slice s3 n3 e3)) s) (hl:LowClu s) (hb:s.pods.length+1≤100000) (hp:PodAt w (.slice a1 m1 c1) (.slice a2 m2 c2) (.slice a3 m3 c3) (.slice a4 m4 c4) p) (hlp:LowPd p):Calls Tryz.prog 10 #[.agg #[.slice s1 n1 e1,.slice s2 n2 e2,.slice s3 n3 e3],PodV p (.slice a1 m1 c1) (.slice a2 m2 c2) (.slice a3 m3 c3) (.slice a4 m4 c4),.bool pack] w (OrdR s p pack w):=by
 obtain⟨Z,hZ⟩:∃Z,(w.alloc (.cells #[.slice s1 n1 e1,.slice s2 n2 e2,.slice s3 n3 e3] 26)).alloc (.cells #[.string p.name,.string p.owner,.int .i64 p.prio,.slice a1 m1 c1,.slice a2 m2 c2,.slice a3 m3 c3,.slice a4 m4 c4,.string p.key,.int .i64 p.most,.string p.node,.bool p.hold] 35)=Z:=⟨_,rfl⟩
 have hkz:Kept w Z:=by rw[←hZ];exact kept_two _ _ _
 have HB1:=lH (freshN w (.slice s1 n1 e1) [.slice s2 n2 e2,.slice s3 n3 e3] 26 Z (by rw[←hZ];exact kept_alloc _ _));have HB2:=lH (show CellsN (w.heap.size+1) [.string p.name,.string p.owner,.int .i64 p.prio,.slice a1 m1 c1,.slice a2 m2 c2,.slice a3 m3 c3,.slice a4 m4 c4,.string p.key,.int .i64 p.most,.string p.node,.bool p.hold] Z by
  have dd:=freshN (w.alloc (.cells #[.slice s1 n1 e1,.slice s2 n2 e2,.slice s3 n3 e3] 26)) (.string p.name) [.string p.owner,.int .i64 p.prio,.slice a1 m1 c1,.slice a2 m2 c2,.slice a3 m3 c3,.slice a4 m4 c4,.string p.key,.int .i64 p.most,.string p.node,.bool p.hold] 35 Z (by rw[hZ];exact Kept.refl _);rw[World.size_alloc] at dd;exact dd)
 have K:=lH hkz;have HS:=lH (hs.kept hkz);have HP:=lH (hp.kept hkz);have HL:=lH hl;have HLB:=lH hb;have HLP:=lH hlp;clear hs hp hkz hl hb hlp;have HMK:=lH (marks_any s1 s2 s3 n1 e1 n2 e2 n3 e3 a1 a2 a3 a4 m1 c1 m2 c2 m3 c3 m4 c4 p s Z HS.out HL.out HLB.out HP.out HLP.out);unfold PodV at HMK;have hfl:=fitsL_len s p s.nodes;have HNL:=HL.out.nodesN;have y0:=HB1.out.at_ 0 _ rfl;have y1:=HB1.out.at_ 1 _ rfl;have y2:=HB1.out.at_ 2 _ rfl;have r0:=HB2.out.at_ 0 _ rfl;have r1:=HB2.out.at_ 1 _ rfl;have r2:=HB2.out.at_ 2 _ rfl;have r3:=HB2.out.at_ 3 _ rfl;have r4:=HB2.out.at_ 4 _ rfl;have r5:=HB2.out.at_ 5 _ rfl;have r6:=HB2.out.at_ 6 _ rfl;have r7:=HB2.out.at_ 7 _ rfl;have r8:=HB2.out.at_ 8 _ rfl;have r9:=HB2.out.at_ 9 _ rfl;have r10:=HB2.out.at_ 10 _ rfl;unfold PodV;go_enter Tryz.func10,Tryz.ntmps10;go_wp2_with fail
 try rw[hZ]
 clear hZ;refine HMK.out.mono ?_;rintro e w1 ⟨v,xs,rfl,hr,ht,kk⟩;have HN:=lH (mnames_any pack v xs w1 hr (by rw[ht.len];omega));have HT:=lH ht;have K:=lH (K.out.trans kk);clear kk hr ht hfl HNL HMK y0 y1 y2 r0 r1 r2 r3 r4 r5 r6 r7 r8 r9 r10;go_wp2_with fail
 refine HN.out.mono ?_;rintro e w2 ⟨y,l,rfl,hp,hs,ho,kk⟩;have HO:=lH (ho.base_le K.out.size);have HD:=lH (ord_of HT.out hp hs);have K:=lH (K.out.trans kk);clear kk ho hp hs HN;go_wp2;go_ret;exact⟨_,_,rfl,HD.out,HO.out,K.out⟩
theorem choose_any (s1 s2 s3:Option Addr) (n1 e1 n2 e2 n3 e3:Nat) (a1 a2 a3 a4:Option Addr) (m1 c1 m2 c2 m3 c3 m4 c4:Nat) (pack:Bool) (p:Pd) (s:Clu) (w:World) (hs:CluR w (CluV (.slice s1 n1 e1) (.slice s2 n2 e2) (.slice s3 n3 e3)) s) (hl:LowClu s) (hb:s.pods.length+1≤100000) (hp:PodAt w (.slice a1 m1 c1) (.slice a2 m2 c2) (.slice a3 m3 c3) (.slice a4 m4 c4) p) (hlp:LowPd p):Calls Tryz.prog 18 #[.agg #[.slice s1 n1 e1,.slice s2 n2 e2,.slice s3 n3 e3],PodV p (.slice a1 m1 c1) (.slice a2 m2 c2) (.slice a3 m3 c3) (.slice a4 m4 c4),.bool pack] w (ChoR s p pack w):=by
 obtain⟨Z,hZ⟩:∃Z,(w.alloc (.cells #[.slice s1 n1 e1,.slice s2 n2 e2,.slice s3 n3 e3] 26)).alloc (.cells #[.string p.name,.string p.owner,.int .i64 p.prio,.slice a1 m1 c1,.slice a2 m2 c2,.slice a3 m3 c3,.slice a4 m4 c4,.string p.key,.int .i64 p.most,.string p.node,.bool p.hold] 35)=Z:=⟨_,rfl⟩
 have hkz:Kept w Z:=by rw[←hZ];exact kept_two _ _ _
 have HB1:=lH (freshN w (.slice s1 n1 e1) [.slice s2 n2 e2,.slice s3 n3 e3] 26 Z (by rw[←hZ];exact kept_alloc _ _));have HB2:=lH (show CellsN (w.heap.size+1) [.string p.name,.string p.owner,.int .i64 p.prio,.slice a1 m1 c1,.slice a2 m2 c2,.slice a3 m3 c3,.slice a4 m4 c4,.string p.key,.int .i64 p.most,.string p.node,.bool p.hold] Z by
  have dd:=freshN (w.alloc (.cells #[.slice s1 n1 e1,.slice s2 n2 e2,.slice s3 n3 e3] 26)) (.string p.name) [.string p.owner,.int .i64 p.prio,.slice a1 m1 c1,.slice a2 m2 c2,.slice a3 m3 c3,.slice a4 m4 c4,.string p.key,.int .i64 p.most,.string p.node,.bool p.hold] 35 Z (by rw[hZ];exact Kept.refl _);rw[World.size_alloc] at dd;exact dd)
 have K:=lH hkz;have HS:=lH (hs.kept hkz);have HP:=lH (hp.kept hkz);have HL:=lH hl;have HLB:=lH hb;have HLP:=lH hlp;clear hs hp hkz hl hb hlp;have HMK:=lH (order_any s1 s2 s3 n1 e1 n2 e2 n3 e3 a1 a2 a3 a4 m1 c1 m2 c2 m3 c3 m4 c4 pack p s Z HS.out HL.out HLB.out HP.out HLP.out);unfold PodV at HMK;have y0:=HB1.out.at_ 0 _ rfl;have y1:=HB1.out.at_ 1 _ rfl;have y2:=HB1.out.at_ 2 _ rfl;have r0:=HB2.out.at_ 0 _ rfl;have r1:=HB2.out.at_ 1 _ rfl;have r2:=HB2.out.at_ 2 _ rfl;have r3:=HB2.out.at_ 3 _ rfl;have r4:=HB2.out.at_ 4 _ rfl;have r5:=HB2.out.at_ 5 _ rfl;have r6:=HB2.out.at_ 6 _ rfl;have r7:=HB2.out.at_ 7 _ rfl;have r8:=HB2.out.at_ 8 _ rfl;have r9:=HB2.out.at_ 9 _ rfl;have r10:=HB2.out.at_ 10 _ rfl;unfold PodV;go_enter Tryz.func18,Tryz.ntmps18;go_wp2_with fail
 try rw[hZ]
 clear hZ;refine HMK.out.mono ?_;rintro e w1 ⟨v,l,rfl,hd,ho,kk⟩;have HD:=lH hd;have K:=lH (K.out.trans kk);obtain⟨a,cap,rfl,-,-,hrow⟩:=ho.at_;clear kk hd ho HMK y0 y1 y2 r0 r1 r2 r3 r4 r5 r6 r7 r8 r9 r10
 cases l with
 | nil =>
  have h0:(((([]:List ByteArray).length:Nat):Int)==0)=true:=rfl;go_wp2;go_ret2
  exact⟨[],HD.out,rfl,K.out⟩
 | cons x t =>
  obtain⟨b,off,rfl⟩:=hrow.form.resolve_left (by simp);obtain⟨x9,hx9,-,-,-,c0⟩:=hrow.str (k:=0) (by simp);obtain rfl:x=x9:=by simpa using hx9
  rw[Nat.add_zero] at c0;obtain⟨n,hn⟩:∃n,(x::t).length=n:=⟨_,rfl⟩
  have hn1:0<n:=by rw[←hn];simp
  have hn0:((n:Int)==0)=false:=by simp;omega
  have hn2:(0:Int)<(n:Int):=by omega
  rw[hn];clear hx9 hrow hn;go_wp2;go_ret2
  exact⟨x::t,HD.out,rfl,K.out⟩
def scC:Nod:={ Nod.zero with name:=⟨#[99]⟩ }
def scS:Clu:=⟨[nodK ⟨#[97]⟩ 10,nodK ⟨#[98]⟩ 10,scC],[podK ⟨#[120]⟩ 5 ⟨#[97]⟩],[]⟩
def scY:Pd:=podK ⟨#[121]⟩ 2 ⟨#[]⟩
def scZ:Pd:=podK ⟨#[122]⟩ 11 ⟨#[]⟩
def scK:Pd:={ Pd.zero with name:=⟨#[107]⟩ }
theorem sc_low:LowClu scS:=⟨fun n hn=>by
 unfold scS at hn;simp only[List.mem_cons,List.not_mem_nil,or_false] at hn;rcases hn with rfl | rfl | rfl
 · exact⟨(by decide:(1:Nat)≤1000000),(by decide:(0:Nat)≤1000000),(by decide:(0:Nat)≤1000000)⟩
 · exact⟨(by decide:(1:Nat)≤1000000),(by decide:(0:Nat)≤1000000),(by decide:(0:Nat)≤1000000)⟩
 · exact⟨(by decide:(0:Nat)≤1000000),(by decide:(0:Nat)≤1000000),(by decide:(0:Nat)≤1000000)⟩,
 fun n hn=>by
  unfold scS at hn;obtain rfl:=List.mem_singleton.1 hn;exact⟨(by decide:(1:Nat)≤1000000),(by decide:(0:Nat)≤1000000),(by decide:(0:Nat)≤1000000),(by decide:(0:Nat)≤1000000)⟩,(fun n h=>by cases h),(by decide:(3:Nat)≤100000),(by decide:(1:Nat)≤100000),(by decide:(0:Nat)≤100000)⟩
theorem podK_low (x y:ByteArray) (c:Int):LowPd (podK x c y):=⟨(by decide:(1:Nat)≤1000000),(by decide:(0:Nat)≤1000000),(by decide:(0:Nat)≤1000000),(by decide:(0:Nat)≤1000000)⟩
theorem scK_low:LowPd scK:=⟨(by decide:(0:Nat)≤1000000),(by decide:(0:Nat)≤1000000),(by decide:(0:Nat)≤1000000),(by decide:(0:Nat)≤1000000)⟩
theorem sc_few:scS.pods.length+1≤100000:=(by decide:(2:Nat)≤100000)
theorem scFY:fitsL scS scY scS.nodes=[⟨#[97]⟩,⟨#[98]⟩]:=by kernel_rfl
theorem scFZ:fitsL scS scZ scS.nodes=[]:=by kernel_rfl
theorem scFK:fitsL scS scK scS.nodes=[⟨#[97]⟩,⟨#[98]⟩,⟨#[99]⟩]:=by kernel_rfl
theorem scU1:usageS scS ⟨#[97]⟩ ⟨#[99,112,117]⟩=some 4602678819172646912:=by kernel_rfl
theorem scU2:usageS scS ⟨#[97]⟩ ⟨#[109,101,109]⟩=none:=by kernel_rfl
theorem scO1:scoreS scS scY ⟨#[97]⟩=some 4604480259023595110:=by kernel_rfl
theorem scO2:scoreS scS scY ⟨#[99]⟩=none:=by kernel_rfl
theorem scA1:aheadS scS scY false ⟨#[97]⟩ ⟨#[98]⟩=false:=by kernel_rfl
theorem scA2:aheadS scS scY true ⟨#[98]⟩ ⟨#[97]⟩=false:=by kernel_rfl
theorem scA3:aheadS scS scK false ⟨#[97]⟩ ⟨#[98]⟩=false:=by kernel_rfl
theorem scA4:aheadS scS scK false ⟨#[99]⟩ ⟨#[98]⟩=false:=by kernel_rfl
theorem scA5:aheadS scS scK false ⟨#[99]⟩ ⟨#[97]⟩=false:=by kernel_rfl
theorem pair_one {r:ByteArray→ByteArray→Prop} {x y:ByteArray} (h:r x y):[x,y].Pairwise r:=List.Pairwise.cons (fun z hz=>by obtain rfl:=List.mem_singleton.1 hz;exact h) (List.Pairwise.cons (fun z hz=>by cases hz) List.Pairwise.nil)
theorem ordY:OrdS scS scY false [⟨#[98]⟩,⟨#[97]⟩]:=⟨by rw[scFY];exact List.Perm.swap _ _ _,pair_one scA1⟩
theorem ordY':OrdS scS scY true [⟨#[97]⟩,⟨#[98]⟩]:=⟨by rw[scFY],pair_one scA2⟩
theorem ordZ:OrdS scS scZ true []:=⟨by rw[scFZ],List.Pairwise.nil⟩
theorem ordK:OrdS scS scK false [⟨#[98]⟩,⟨#[97]⟩,⟨#[99]⟩]:=⟨by rw[scFK];exact List.Perm.swap _ _ _,List.Pairwise.cons (fun z hz=>by
 rcases List.mem_cons.1 hz with rfl | hz
 · exact scA3
 · obtain rfl:=List.mem_singleton.1 hz;exact scA4) (pair_one scA5)⟩
theorem ChoR.is {s:Clu} {p:Pd} {pack:Bool} {w w':World} {e:Ending} {l:List ByteArray} (h:ChoR s p pack w e w') (ho:OrdS s p pack l):Say (.tuple #[.string (l.headD ⟨#[]⟩),.bool (!l.isEmpty)]) w e w':=by
 obtain⟨m,hm,he,kk⟩:=h;rw[hm.unique ho] at he;exact⟨he,kk⟩
theorem FltS.is {x:Option Nat} {z:Nat} {w w':World} {e:Ending} (h:FltS x w e w') (hx:x=some z):Say (.float .f64 z) w e w':=by
 obtain⟨r,he,hr,-,kk⟩:=h;rw[hx] at hr;obtain⟨-,rfl⟩:=nrm_some.1 hr;exact⟨he,kk⟩
def NanS (w:World) (e:Ending) (w':World):Prop:=∃r,e=.returned (.float .f64 r)∧cls r=6∧Kept w w'
theorem FltS.not {x:Option Nat} {w w':World} {e:Ending} (h:FltS x w e w') (hx:x=none):NanS w e w':=by
 obtain⟨r,he,hr,-,kk⟩:=h;rw[hx] at hr;exact⟨r,he,by unfold cls;rw[nrm_none.1 hr];rfl,kk⟩
theorem OrdR.is {s:Clu} {p:Pd} {pack:Bool} {w w':World} {e:Ending} {l:List ByteArray} (h:OrdR s p pack w e w') (ho:OrdS s p pack l):∃v,e=.returned v∧Own StrLay 9 w' w.heap.size v l∧Kept w w':=by
 obtain⟨v,m,he,hm,h2,kk⟩:=h;rw[hm.unique ho] at h2;exact⟨v,he,h2,kk⟩
theorem podAt_k (w:World):PodAt w (.slice none 0 0) (.slice none 0 0) (.slice none 0 0) (.slice none 0 0) scK:=⟨(by decide:(1:Nat)≤maxLen),(by decide:(0:Nat)≤maxLen),(by decide:(0:Nat)≤maxLen),(by decide:(0:Nat)≤maxLen),(by decide:(-9223372036854775808:Int)≤0∧(0:Int)≤9223372036854775807),(by decide:(-9223372036854775808:Int)≤0∧(0:Int)≤9223372036854775807),⟨none,0,rfl,Nat.le_refl _,by decide,Vec.VecAt.nil w⟩,Reads.nil _,Reads.nil _,Reads.nil _⟩
theorem half_eq:(FloatKind.f64.format.order 4602678819172646912 4602678819172646912==some .eq)=true:=by kernel_rfl
theorem sev_eq:(FloatKind.f64.format.order 4604480259023595110 4604480259023595110==some .eq)=true:=by kernel_rfl
theorem knownSc_any (w:World):Calls Tryz.prog 5 #[] w (Say (.bool true) w):=by
 go_enter Tryz.func5,Tryz.ntmps5;go_wp2_with fail
 refine(lawN_any ⟨#[97]⟩ 10 (by decide:(-9223372036854775808:Int)≤10∧(10:Int)≤9223372036854775807) (by decide:(1:Nat)≤maxLen) _).mono ?_;rintro e w1 ⟨b1,n1,d1,rfl,ha,k⟩;have K:=lH k;have HA1:=lH ha;clear k ha;go_wp2_with fail
 refine(lawN_any ⟨#[98]⟩ 10 (by decide:(-9223372036854775808:Int)≤10∧(10:Int)≤9223372036854775807) (by decide:(1:Nat)≤maxLen) _).mono ?_;rintro e w2 ⟨b2,n2,d2,rfl,ha,k⟩;have K:=lH (K.out.trans k);have HA1:=lH (HA1.out.kept k);have HA2:=lH ha;clear k ha;obtain⟨gB,hgB⟩:∃g,w2.heap.size=g:=⟨_,rfl⟩
 obtain⟨wB,hwB⟩:∃W,w2.alloc (.cells #[.string ⟨#[97]⟩,.slice b1 n1 d1,.slice none 0 0,.slice none 0 0,.bool false,.string ⟨#[98]⟩,.slice b2 n2 d2,.slice none 0 0,.slice none 0 0,.bool false,.string ⟨#[99]⟩,.slice none 0 0,.slice none 0 0,.slice none 0 0,.bool false] 55)=W:=⟨_,rfl⟩
 have kk:Kept w2 wB:=by rw[←hwB];exact kept_alloc _ _
 have hsz:wB.heap.size=gB+1:=by rw[←hwB,World.size_alloc,hgB]
 have HSgB:=lH hsz;have CB:=lH (show CellsN gB [.string ⟨#[97]⟩,.slice b1 n1 d1,.slice none 0 0,.slice none 0 0,.bool false,.string ⟨#[98]⟩,.slice b2 n2 d2,.slice none 0 0,.slice none 0 0,.bool false,.string ⟨#[99]⟩,.slice none 0 0,.slice none 0 0,.slice none 0 0,.bool false] wB from by
  have c:=freshN w2 (.string ⟨#[97]⟩) [.slice b1 n1 d1,.slice none 0 0,.slice none 0 0,.bool false,.string ⟨#[98]⟩,.slice b2 n2 d2,.slice none 0 0,.slice none 0 0,.bool false,.string ⟨#[99]⟩,.slice none 0 0,.slice none 0 0,.slice none 0 0,.bool false] 55 wB (by rw[hwB];exact Kept.refl _);rw[hgB] at c;exact c)
 have HGgB:=lH hgB;have HNwB:=lH hwB;clear hgB hwB hsz;have HRN:=lH (show NodesAt wB (some ⟨gB,0,none⟩) 3 scS.nodes from nodes_row (lx:=[(nodK ⟨#[97]⟩ 10,(b1,n1,d1),(none,0,0),(none,0,0)),(nodK ⟨#[98]⟩ 10,(b2,n2,d2),(none,0,0),(none,0,0)),(scC,(none,0,0),(none,0,0),(none,0,0))]) (row_fresh rfl CB.out (fun _ _=>trivial) (by decide:(3:Nat)≤maxLen)) (fun z hz=>by
  rcases List.mem_cons.1 hz with rfl | hz
  · exact HA1.out.kept kk
  rcases List.mem_cons.1 hz with rfl | hz
  · exact HA2.out.kept kk
  obtain rfl:=List.mem_singleton.1 hz;exact⟨(by decide:(1:Nat)≤maxLen),⟨none,0,rfl,Nat.le_refl _,by decide,Vec.VecAt.nil wB⟩,Reads.nil _,Reads.nil _⟩))
 have K:=lH (K.out.trans kk);clear kk CB HA1 HA2;go_wp2_with fail
 rw[HNwB.out];try rw[HGgB.out]
 clear HNwB;refine(lawP_any ⟨#[120]⟩ 5 ⟨#[97]⟩ (by decide:(-9223372036854775808:Int)≤5∧(5:Int)≤9223372036854775807) (by decide:(1:Nat)≤maxLen) (by decide:(1:Nat)≤maxLen) _).mono ?_;rintro e w3 ⟨p1,q1,r1,rfl,ha,kk⟩;have K:=lH (K.out.trans kk);have HRN:=lH (HRN.out.kept kk);have HP1:=lH ha;clear kk ha;obtain⟨gS,hgS⟩:∃g,w3.heap.size=g:=⟨_,rfl⟩
 obtain⟨wS,hwS⟩:∃W,w3.alloc (.cells #[.string ⟨#[120]⟩,.string ⟨#[]⟩,.int .i64 0,.slice p1 q1 r1,.slice none 0 0,.slice none 0 0,.slice none 0 0,.string ⟨#[]⟩,.int .i64 0,.string ⟨#[97]⟩,.bool false] 35)=W:=⟨_,rfl⟩
 have kk:Kept w3 wS:=by rw[←hwS];exact kept_alloc _ _
 have hsz:wS.heap.size=gS+1:=by rw[←hwS,World.size_alloc,hgS]
 have HSgS:=lH hsz;have CS:=lH (show CellsN gS [.string ⟨#[120]⟩,.string ⟨#[]⟩,.int .i64 0,.slice p1 q1 r1,.slice none 0 0,.slice none 0 0,.slice none 0 0,.string ⟨#[]⟩,.int .i64 0,.string ⟨#[97]⟩,.bool false] wS from by
  have c:=freshN w3 (.string ⟨#[120]⟩) [.string ⟨#[]⟩,.int .i64 0,.slice p1 q1 r1,.slice none 0 0,.slice none 0 0,.slice none 0 0,.string ⟨#[]⟩,.int .i64 0,.string ⟨#[97]⟩,.bool false] 35 wS (by rw[hwS];exact Kept.refl _);rw[hgS] at c;exact c)
 have HGgS:=lH hgS;have HNwS:=lH hwS;clear hgS hwS hsz;have HRP:=lH (show PodsAt wS (some ⟨gS,0,none⟩) 1 scS.pods from pods_row (lx:=[(podK ⟨#[120]⟩ 5 ⟨#[97]⟩,(p1,q1,r1),(none,0,0),(none,0,0),(none,0,0))]) (row_fresh rfl CS.out (fun _ _=>trivial) (by decide:(1:Nat)≤maxLen)) (fun z hz=>by
  obtain rfl:=List.mem_singleton.1 hz;exact HP1.out.kept kk))
 have HRN:=lH (HRN.out.kept kk);have K:=lH (K.out.trans kk);clear kk CS HP1;obtain⟨gQ,hgQ⟩:∃g,wS.heap.size=g:=⟨_,rfl⟩
 obtain⟨wQ,hwQ⟩:∃W,wS.alloc (.cells #[.slice (some ⟨gB,0,none⟩) 3 3,.slice (some ⟨gS,0,none⟩) 1 1,.slice none 0 0] 26)=W:=⟨_,rfl⟩
 have kk:Kept wS wQ:=by rw[←hwQ];exact kept_alloc _ _
 have hsz:wQ.heap.size=gQ+1:=by rw[←hwQ,World.size_alloc,hgQ]
 have HSgQ:=lH hsz;have CQ:=lH (show CellsN gQ [.slice (some ⟨gB,0,none⟩) 3 3,.slice (some ⟨gS,0,none⟩) 1 1,.slice none 0 0] wQ from by
  have c:=freshN wS (.slice (some ⟨gB,0,none⟩) 3 3) [.slice (some ⟨gS,0,none⟩) 1 1,.slice none 0 0] 26 wQ (by rw[hwQ];exact Kept.refl _);rw[hgQ] at c;exact c)
 have HGgQ:=lH hgQ;have HNwQ:=lH hwQ;clear hgQ hwQ hsz;have HC:=lH (show CluR wQ (.agg #[.slice (some ⟨gB,0,none⟩) 3 3,.slice (some ⟨gS,0,none⟩) 1 1,.slice none 0 0]) scS from⟨_,_,_,rfl,⟨⟨_,_,rfl,(by decide:(3:Nat)≤3),(by decide:(3:Nat)≤maxLen),HRN.out.kept kk⟩,⟨_,_,rfl,(by decide:(1:Nat)≤1),(by decide:(1:Nat)≤maxLen),HRP.out.kept kk⟩,⟨_,_,rfl,(by decide:(0:Nat)≤0),(by decide:(0:Nat)≤maxLen),buds_none _⟩⟩⟩);have K:=lH (K.out.trans kk);clear kk HRN HRP;have hgq:gQ=gS+1:=HGgQ.out.symm.trans HSgS.out;have HGQ:=lH hgq;clear hgq;go_upto_region 2 with fail
 rw[HNwS.out];try rw[HGgS.out]
 rw[HNwQ.out];try rw[←HGQ.out]
 try rw[HGgQ.out]
 clear HNwS HNwQ;go_wp2_with fail
 refine(lawP_any ⟨#[121]⟩ 2 ⟨#[]⟩ (by decide:(-9223372036854775808:Int)≤2∧(2:Int)≤9223372036854775807) (by decide:(1:Nat)≤maxLen) (by decide:(0:Nat)≤maxLen) _).mono ?_;rintro e w4 ⟨p2,q2,r2,rfl,ha,kk⟩;have K:=lH (K.out.trans kk);have HC:=lH (HC.out.kept kk);have CQ:=lH (CQ.out.kept kk);have HY:=lH ha;clear kk ha;obtain⟨gR,hgR⟩:∃g,w4.heap.size=g:=⟨_,rfl⟩
 obtain⟨wR,hwR⟩:∃W,w4.alloc (.cells #[.string ⟨#[121]⟩,.string ⟨#[]⟩,.int .i64 0,.slice p2 q2 r2,.slice none 0 0,.slice none 0 0,.slice none 0 0,.string ⟨#[]⟩,.int .i64 0,.string ⟨#[]⟩,.bool false] 35)=W:=⟨_,rfl⟩
 have kk:Kept w4 wR:=by rw[←hwR];exact kept_alloc _ _
 have hsz:wR.heap.size=gR+1:=by rw[←hwR,World.size_alloc,hgR]
 have HSgR:=lH hsz;have CR:=lH (show CellsN gR [.string ⟨#[121]⟩,.string ⟨#[]⟩,.int .i64 0,.slice p2 q2 r2,.slice none 0 0,.slice none 0 0,.slice none 0 0,.string ⟨#[]⟩,.int .i64 0,.string ⟨#[]⟩,.bool false] wR from by
  have c:=freshN w4 (.string ⟨#[121]⟩) [.string ⟨#[]⟩,.int .i64 0,.slice p2 q2 r2,.slice none 0 0,.slice none 0 0,.slice none 0 0,.string ⟨#[]⟩,.int .i64 0,.string ⟨#[]⟩,.bool false] 35 wR (by rw[hwR];exact Kept.refl _);rw[hgR] at c;exact c)
 have HGgR:=lH hgR;have HNwR:=lH hwR;clear hgR hwR hsz;have K:=lH (K.out.trans kk);have HC:=lH (HC.out.kept kk);have CQ:=lH (CQ.out.kept kk);have HY:=lH (HY.out.kept kk);clear kk;go_upto_region 3 with fail
 rw[HNwR.out];try rw[HGgR.out]
 clear HNwR;have HC1:=lH (show ∀W,Kept wR W→Calls Tryz.prog 18 #[.agg #[.slice (some ⟨gB,0,none⟩) 3 3,.slice (some ⟨gS,0,none⟩) 1 1,.slice none 0 0],.agg #[.string ⟨#[121]⟩,.string ⟨#[]⟩,.int .i64 0,.slice p2 q2 r2,.slice none 0 0,.slice none 0 0,.slice none 0 0,.string ⟨#[]⟩,.int .i64 0,.string ⟨#[]⟩,.bool false],.bool false] W (Say (.tuple #[.string ⟨#[98]⟩,.bool true]) W) from fun W k=>(choose_any (some ⟨gB,0,none⟩) (some ⟨gS,0,none⟩) none 3 3 1 1 0 0 p2 none none none q2 r2 0 0 0 0 0 0 false scY scS W (HC.out.kept k) sc_low sc_few (HY.out.kept k) (podK_low _ _ _)).mono fun e w h=>h.is ordY);have HC2:=lH (show ∀W,Kept wR W→Calls Tryz.prog 18 #[.agg #[.slice (some ⟨gB,0,none⟩) 3 3,.slice (some ⟨gS,0,none⟩) 1 1,.slice none 0 0],.agg #[.string ⟨#[121]⟩,.string ⟨#[]⟩,.int .i64 0,.slice p2 q2 r2,.slice none 0 0,.slice none 0 0,.slice none 0 0,.string ⟨#[]⟩,.int .i64 0,.string ⟨#[]⟩,.bool false],.bool true] W (Say (.tuple #[.string ⟨#[97]⟩,.bool true]) W) from fun W k=>(choose_any (some ⟨gB,0,none⟩) (some ⟨gS,0,none⟩) none 3 3 1 1 0 0 p2 none none none q2 r2 0 0 0 0 0 0 true scY scS W (HC.out.kept k) sc_low sc_few (HY.out.kept k) (podK_low _ _ _)).mono fun e w h=>h.is ordY');have HU1:=lH (show ∀W,Kept wR W→Calls Tryz.prog 19 #[.agg #[.slice (some ⟨gB,0,none⟩) 3 3,.slice (some ⟨gS,0,none⟩) 1 1,.slice none 0 0],.string ⟨#[97]⟩,.string ⟨#[99,112,117]⟩] W (Say (.float .f64 4602678819172646912) W) from fun W k=>(usageF_any (some ⟨gB,0,none⟩) (some ⟨gS,0,none⟩) none 3 3 1 1 0 0 scS ⟨#[97]⟩ ⟨#[99,112,117]⟩ W (HC.out.kept k) sc_low).mono fun e w h=>h.is scU1);have HU2:=lH (show ∀W,Kept wR W→Calls Tryz.prog 19 #[.agg #[.slice (some ⟨gB,0,none⟩) 3 3,.slice (some ⟨gS,0,none⟩) 1 1,.slice none 0 0],.string ⟨#[97]⟩,.string ⟨#[109,101,109]⟩] W (NanS W) from fun W k=>(usageF_any (some ⟨gB,0,none⟩) (some ⟨gS,0,none⟩) none 3 3 1 1 0 0 scS ⟨#[97]⟩ ⟨#[109,101,109]⟩ W (HC.out.kept k) sc_low).mono fun e w h=>h.not scU2);have HO1:=lH (show ∀W,Kept wR W→Calls Tryz.prog 15 #[.agg #[.slice (some ⟨gB,0,none⟩) 3 3,.slice (some ⟨gS,0,none⟩) 1 1,.slice none 0 0],.agg #[.string ⟨#[121]⟩,.string ⟨#[]⟩,.int .i64 0,.slice p2 q2 r2,.slice none 0 0,.slice none 0 0,.slice none 0 0,.string ⟨#[]⟩,.int .i64 0,.string ⟨#[]⟩,.bool false],.string ⟨#[97]⟩] W (Say (.float .f64 4604480259023595110) W) from fun W k=>(score_any (some ⟨gB,0,none⟩) (some ⟨gS,0,none⟩) none 3 3 1 1 0 0 p2 none none none q2 r2 0 0 0 0 0 0 scY scS ⟨#[97]⟩ W (HC.out.kept k) sc_low sc_few (HY.out.kept k) (podK_low _ _ _) (by decide:(1:Nat)≤maxLen)).mono fun e w h=>h.is scO1);have HO2:=lH (show ∀W,Kept wR W→Calls Tryz.prog 15 #[.agg #[.slice (some ⟨gB,0,none⟩) 3 3,.slice (some ⟨gS,0,none⟩) 1 1,.slice none 0 0],.agg #[.string ⟨#[121]⟩,.string ⟨#[]⟩,.int .i64 0,.slice p2 q2 r2,.slice none 0 0,.slice none 0 0,.slice none 0 0,.string ⟨#[]⟩,.int .i64 0,.string ⟨#[]⟩,.bool false],.string ⟨#[99]⟩] W (NanS W) from fun W k=>(score_any (some ⟨gB,0,none⟩) (some ⟨gS,0,none⟩) none 3 3 1 1 0 0 p2 none none none q2 r2 0 0 0 0 0 0 scY scS ⟨#[99]⟩ W (HC.out.kept k) sc_low sc_few (HY.out.kept k) (podK_low _ _ _) (by decide:(1:Nat)≤maxLen)).mono fun e w h=>h.not scO2);have KW:=lH (Kept.refl wR);have s0:=(CQ.out.kept KW.out).at_ 0 _ rfl;have s1:=(CQ.out.kept KW.out).at_ 1 _ rfl;have s2:=(CQ.out.kept KW.out).at_ 2 _ rfl;have u0:=(CR.out.kept KW.out).at_ 0 _ rfl;have u1:=(CR.out.kept KW.out).at_ 1 _ rfl;have u2:=(CR.out.kept KW.out).at_ 2 _ rfl;have u3:=(CR.out.kept KW.out).at_ 3 _ rfl;have u4:=(CR.out.kept KW.out).at_ 4 _ rfl;have u5:=(CR.out.kept KW.out).at_ 5 _ rfl;have u6:=(CR.out.kept KW.out).at_ 6 _ rfl;have u7:=(CR.out.kept KW.out).at_ 7 _ rfl;have u8:=(CR.out.kept KW.out).at_ 8 _ rfl;have u9:=(CR.out.kept KW.out).at_ 9 _ rfl;have u10:=(CR.out.kept KW.out).at_ 10 _ rfl;go_wp2_with fail
 refine(HC1.out _ KW.out).mono ?_;rintro e y1 ⟨rfl,kk⟩;have KW:=lH (KW.out.trans kk);clear kk;clear s0 s1 s2 u0 u1 u2 u3 u4 u5 u6 u7 u8 u9 u10;have s0:=(CQ.out.kept KW.out).at_ 0 _ rfl;have s1:=(CQ.out.kept KW.out).at_ 1 _ rfl;have s2:=(CQ.out.kept KW.out).at_ 2 _ rfl;have u0:=(CR.out.kept KW.out).at_ 0 _ rfl;have u1:=(CR.out.kept KW.out).at_ 1 _ rfl;have u2:=(CR.out.kept KW.out).at_ 2 _ rfl;have u3:=(CR.out.kept KW.out).at_ 3 _ rfl;have u4:=(CR.out.kept KW.out).at_ 4 _ rfl;have u5:=(CR.out.kept KW.out).at_ 5 _ rfl;have u6:=(CR.out.kept KW.out).at_ 6 _ rfl;have u7:=(CR.out.kept KW.out).at_ 7 _ rfl;have u8:=(CR.out.kept KW.out).at_ 8 _ rfl;have u9:=(CR.out.kept KW.out).at_ 9 _ rfl;have u10:=(CR.out.kept KW.out).at_ 10 _ rfl;go_wp2_with fail
 refine(HC2.out _ KW.out).mono ?_;rintro e y2 ⟨rfl,kk⟩;have KW:=lH (KW.out.trans kk);clear kk;clear s0 s1 s2 u0 u1 u2 u3 u4 u5 u6 u7 u8 u9 u10;have HFS:=lH (show ∀W,Kept wR W→W.cell? ⟨gQ,0,none⟩=some (.slice (some ⟨gB,0,none⟩) 3 3)∧W.cell? ⟨gQ,1,none⟩=some (.slice (some ⟨gS,0,none⟩) 1 1)∧W.cell? ⟨gQ,2,none⟩=some (.slice none 0 0) from fun W k=>by
  have h:=CQ.out.kept k;exact⟨h.at_ 0 _ rfl,h.at_ 1 _ rfl,h.at_ 2 _ rfl⟩)
 go_upto_region 5 with fail
 refine wp_region_held_drew (S:=fun W=>W.cell? ⟨gQ,0,none⟩=some (.slice (some ⟨gB,0,none⟩) 3 3)∧W.cell? ⟨gQ,1,none⟩=some (.slice (some ⟨gS,0,none⟩) 1 1)∧W.cell? ⟨gQ,2,none⟩=some (.slice none 0 0)) (by kernel_rfl) (HFS.out _ (KW.out.trans (Kept.drew y2))) (fun hHeld=>?_);refine wpAnyH_take  (i:=0) (v:=?_) (by rw[List.getElem?_toArray];exact rfl) (by kernel_rfl) (by kernel_rfl) (by kernel_rfl) (by exact fun _ _ _ h=>h) (Or.inl ⟨by rfl,(by rintro W ⟨o0,o1,o2⟩;go_simp<;>with_reducible rfl)⟩) (by assumption) ?_;try simp only  [Act.put,List.setIfInBounds_toArray,List.set_cons_zero,List.set_cons_succ]
 have KW:=lH (KW.out.trans (Kept.drew y2));obtain⟨wd,hwd⟩:∃W,y2.drew=W:=⟨_,rfl⟩
 rw[hwd] at hHeld KW;try rw[hwd]
 clear hwd;refine wpAnyH_ready  (rs:=[1]) (by kernel_rfl) (by simp) (AllReadyH.cons  (by rw[List.getElem?_toArray];exact rfl) (fun K9 Ky=>?_) AllReadyH.nil);go_simp;refine(lawP_any ⟨#[122]⟩ 11 ⟨#[]⟩ (by decide:(-9223372036854775808:Int)≤11∧(11:Int)≤9223372036854775807) (by decide:(1:Nat)≤maxLen) (by decide:(0:Nat)≤maxLen) _).mono ?_;rintro e y3 ⟨p3,q3,r3,rfl,ha,kk⟩;have KW:=lH (KW.out.trans kk);have HZ:=lH ha;clear kk ha;refine Ky.out _ _ (HFS.out _ KW.out) (fun _=>?_);clear Ky K9;try simp only  [Act.put,List.setIfInBounds_toArray,List.set_cons_zero,List.set_cons_succ]
 refine wpAnyH_ready  (rs:=[2]) (by kernel_rfl) (by simp) (AllReadyH.cons  (by rw[List.getElem?_toArray];exact rfl) (fun K9 Ky=>?_) AllReadyH.nil);go_simp;refine((choose_any (some ⟨gB,0,none⟩) (some ⟨gS,0,none⟩) none 3 3 1 1 0 0 p3 none none none q3 r3 0 0 0 0 0 0 true scZ scS y3 (HC.out.kept KW.out) sc_low sc_few HZ.out (podK_low _ _ _)).mono fun e w h=>h.is ordZ).mono ?_;rintro e y4 ⟨rfl,kk⟩;have KW:=lH (KW.out.trans kk);clear kk HZ;refine Ky.out _ _ (HFS.out _ KW.out) (fun _=>?_);clear Ky K9;try simp only  [Act.put,List.setIfInBounds_toArray,List.set_cons_zero,List.set_cons_succ]
 refine wpAnyH_take  (i:=3) (v:=?_) (by rw[List.getElem?_toArray];exact rfl) (by kernel_rfl) (by kernel_rfl) (by kernel_rfl) (by exact fun _ _ _ h=>h) (Or.inl ⟨by rfl,(by rintro W ⟨o0,o1,o2⟩;go_simp<;>with_reducible rfl)⟩) (by assumption) ?_;try simp only  [Act.put,List.setIfInBounds_toArray,List.set_cons_zero,List.set_cons_succ]
 refine wpAnyH_take  (i:=4) (v:=?_) (by rw[List.getElem?_toArray];exact rfl) (by kernel_rfl) (by kernel_rfl) (by kernel_rfl) (by exact fun _ _ _ h=>h) (Or.inl ⟨by rfl,(by rintro W ⟨o0,o1,o2⟩;go_simp<;>with_reducible rfl)⟩) (by assumption) ?_;try simp only  [Act.put,List.setIfInBounds_toArray,List.set_cons_zero,List.set_cons_succ]
 refine wpAnyH_take  (i:=5) (v:=?_) (by rw[List.getElem?_toArray];exact rfl) (by kernel_rfl) (by kernel_rfl) (by kernel_rfl) (by exact fun _ _ _ h=>h) (Or.inl ⟨by rfl,(by rintro W ⟨o0,o1,o2⟩;go_simp<;>with_reducible rfl)⟩) (by assumption) ?_;try simp only  [Act.put,List.setIfInBounds_toArray,List.set_cons_zero,List.set_cons_succ]
 refine wpAnyH_take  (i:=6) (v:=?_) (by rw[List.getElem?_toArray];exact rfl) (by kernel_rfl) (by kernel_rfl) (by kernel_rfl) (by exact fun _ _ _ h=>h) (Or.inl ⟨by rfl,(by rintro W ⟨o0,o1,o2⟩;go_simp<;>with_reducible rfl)⟩) (by assumption) ?_;try simp only  [Act.put,List.setIfInBounds_toArray,List.set_cons_zero,List.set_cons_succ]
 refine wpAnyH_take  (i:=7) (v:=?_) (by rw[List.getElem?_toArray];exact rfl) (by kernel_rfl) (by kernel_rfl) (by kernel_rfl) (by exact fun _ _ _ h=>h) (Or.inl ⟨by rfl,(by rintro W ⟨o0,o1,o2⟩;go_simp<;>with_reducible rfl)⟩) (by assumption) ?_;try simp only  [Act.put,List.setIfInBounds_toArray,List.set_cons_zero,List.set_cons_succ]
 refine wpAnyH_done (by kernel_rfl) ?_ _;have s0:=(CQ.out.kept KW.out).at_ 0 _ rfl;have s1:=(CQ.out.kept KW.out).at_ 1 _ rfl;have s2:=(CQ.out.kept KW.out).at_ 2 _ rfl;have u0:=(CR.out.kept KW.out).at_ 0 _ rfl;have u1:=(CR.out.kept KW.out).at_ 1 _ rfl;have u2:=(CR.out.kept KW.out).at_ 2 _ rfl;have u3:=(CR.out.kept KW.out).at_ 3 _ rfl;have u4:=(CR.out.kept KW.out).at_ 4 _ rfl;have u5:=(CR.out.kept KW.out).at_ 5 _ rfl;have u6:=(CR.out.kept KW.out).at_ 6 _ rfl;have u7:=(CR.out.kept KW.out).at_ 7 _ rfl;have u8:=(CR.out.kept KW.out).at_ 8 _ rfl;have u9:=(CR.out.kept KW.out).at_ 9 _ rfl;have u10:=(CR.out.kept KW.out).at_ 10 _ rfl;go_wp2_with fail
 refine((order_any (some ⟨gB,0,none⟩) (some ⟨gS,0,none⟩) none 3 3 1 1 0 0 none none none none 0 0 0 0 0 0 0 0 false scK scS y4 (HC.out.kept KW.out) sc_low sc_few (podAt_k _) scK_low).mono fun e w h=>h.is ordK).mono ?_;rintro e y5 ⟨v9,rfl,ho,kk⟩;have HV:=lH ho.reads;have KW:=lH (KW.out.trans kk);clear kk ho;clear s0 s1 s2 u0 u1 u2 u3 u4 u5 u6 u7 u8 u9 u10;have s0:=(CQ.out.kept KW.out).at_ 0 _ rfl;have s1:=(CQ.out.kept KW.out).at_ 1 _ rfl;have s2:=(CQ.out.kept KW.out).at_ 2 _ rfl;have u0:=(CR.out.kept KW.out).at_ 0 _ rfl;have u1:=(CR.out.kept KW.out).at_ 1 _ rfl;have u2:=(CR.out.kept KW.out).at_ 2 _ rfl;have u3:=(CR.out.kept KW.out).at_ 3 _ rfl;have u4:=(CR.out.kept KW.out).at_ 4 _ rfl;have u5:=(CR.out.kept KW.out).at_ 5 _ rfl;have u6:=(CR.out.kept KW.out).at_ 6 _ rfl;have u7:=(CR.out.kept KW.out).at_ 7 _ rfl;have u8:=(CR.out.kept KW.out).at_ 8 _ rfl;have u9:=(CR.out.kept KW.out).at_ 9 _ rfl;have u10:=(CR.out.kept KW.out).at_ 10 _ rfl;have eb:(((⟨#[98]⟩:ByteArray).toList==(⟨#[98]⟩:ByteArray).toList))=true:=by simp
 have ea:(((⟨#[97]⟩:ByteArray).toList==(⟨#[97]⟩:ByteArray).toList))=true:=by simp
 have eh:=half_eq;have es:=sev_eq;go_wp2_with fail
 refine(HU1.out _ KW.out).mono ?_;rintro e y6 ⟨rfl,kk⟩;have KW:=lH (KW.out.trans kk);have HV:=lH (HV.out.kept kk);clear kk;clear s0 s1 s2 u0 u1 u2 u3 u4 u5 u6 u7 u8 u9 u10;have s0:=(CQ.out.kept KW.out).at_ 0 _ rfl;have s1:=(CQ.out.kept KW.out).at_ 1 _ rfl;have s2:=(CQ.out.kept KW.out).at_ 2 _ rfl;have u0:=(CR.out.kept KW.out).at_ 0 _ rfl;have u1:=(CR.out.kept KW.out).at_ 1 _ rfl;have u2:=(CR.out.kept KW.out).at_ 2 _ rfl;have u3:=(CR.out.kept KW.out).at_ 3 _ rfl;have u4:=(CR.out.kept KW.out).at_ 4 _ rfl;have u5:=(CR.out.kept KW.out).at_ 5 _ rfl;have u6:=(CR.out.kept KW.out).at_ 6 _ rfl;have u7:=(CR.out.kept KW.out).at_ 7 _ rfl;have u8:=(CR.out.kept KW.out).at_ 8 _ rfl;have u9:=(CR.out.kept KW.out).at_ 9 _ rfl;have u10:=(CR.out.kept KW.out).at_ 10 _ rfl;go_wp2_with fail
 refine(HU2.out _ KW.out).mono ?_;rintro e y7 ⟨r1x,rfl,hn1,kk⟩;have KW:=lH (KW.out.trans kk);have HV:=lH (HV.out.kept kk);clear kk;clear s0 s1 s2 u0 u1 u2 u3 u4 u5 u6 u7 u8 u9 u10;have s0:=(CQ.out.kept KW.out).at_ 0 _ rfl;have s1:=(CQ.out.kept KW.out).at_ 1 _ rfl;have s2:=(CQ.out.kept KW.out).at_ 2 _ rfl;have u0:=(CR.out.kept KW.out).at_ 0 _ rfl;have u1:=(CR.out.kept KW.out).at_ 1 _ rfl;have u2:=(CR.out.kept KW.out).at_ 2 _ rfl;have u3:=(CR.out.kept KW.out).at_ 3 _ rfl;have u4:=(CR.out.kept KW.out).at_ 4 _ rfl;have u5:=(CR.out.kept KW.out).at_ 5 _ rfl;have u6:=(CR.out.kept KW.out).at_ 6 _ rfl;have u7:=(CR.out.kept KW.out).at_ 7 _ rfl;have u8:=(CR.out.kept KW.out).at_ 8 _ rfl;have u9:=(CR.out.kept KW.out).at_ 9 _ rfl;have u10:=(CR.out.kept KW.out).at_ 10 _ rfl;go_wp2_with fail
 refine(class_any r1x _).mono ?_;rintro e y8 ⟨rfl,rfl⟩;rw[hn1];go_wp2_with fail
 refine(HO1.out _ KW.out).mono ?_;rintro e y9 ⟨rfl,kk⟩;have KW:=lH (KW.out.trans kk);have HV:=lH (HV.out.kept kk);clear kk;clear s0 s1 s2 u0 u1 u2 u3 u4 u5 u6 u7 u8 u9 u10;have s0:=(CQ.out.kept KW.out).at_ 0 _ rfl;have s1:=(CQ.out.kept KW.out).at_ 1 _ rfl;have s2:=(CQ.out.kept KW.out).at_ 2 _ rfl;have u0:=(CR.out.kept KW.out).at_ 0 _ rfl;have u1:=(CR.out.kept KW.out).at_ 1 _ rfl;have u2:=(CR.out.kept KW.out).at_ 2 _ rfl;have u3:=(CR.out.kept KW.out).at_ 3 _ rfl;have u4:=(CR.out.kept KW.out).at_ 4 _ rfl;have u5:=(CR.out.kept KW.out).at_ 5 _ rfl;have u6:=(CR.out.kept KW.out).at_ 6 _ rfl;have u7:=(CR.out.kept KW.out).at_ 7 _ rfl;have u8:=(CR.out.kept KW.out).at_ 8 _ rfl;have u9:=(CR.out.kept KW.out).at_ 9 _ rfl;have u10:=(CR.out.kept KW.out).at_ 10 _ rfl;go_wp2_with fail
 refine(HO2.out _ KW.out).mono ?_;rintro e y10 ⟨r2x,rfl,hn2,kk⟩;have KW:=lH (KW.out.trans kk);have HV:=lH (HV.out.kept kk);clear kk;clear s0 s1 s2 u0 u1 u2 u3 u4 u5 u6 u7 u8 u9 u10;have s0:=(CQ.out.kept KW.out).at_ 0 _ rfl;have s1:=(CQ.out.kept KW.out).at_ 1 _ rfl;have s2:=(CQ.out.kept KW.out).at_ 2 _ rfl;have u0:=(CR.out.kept KW.out).at_ 0 _ rfl;have u1:=(CR.out.kept KW.out).at_ 1 _ rfl;have u2:=(CR.out.kept KW.out).at_ 2 _ rfl;have u3:=(CR.out.kept KW.out).at_ 3 _ rfl;have u4:=(CR.out.kept KW.out).at_ 4 _ rfl;have u5:=(CR.out.kept KW.out).at_ 5 _ rfl;have u6:=(CR.out.kept KW.out).at_ 6 _ rfl;have u7:=(CR.out.kept KW.out).at_ 7 _ rfl;have u8:=(CR.out.kept KW.out).at_ 8 _ rfl;have u9:=(CR.out.kept KW.out).at_ 9 _ rfl;have u10:=(CR.out.kept KW.out).at_ 10 _ rfl;go_wp2_with fail
 refine(class_any r2x _).mono ?_;rintro e y11 ⟨rfl,rfl⟩;rw[hn2];obtain⟨gL,hgL⟩:∃g,y10.heap.size=g:=⟨_,rfl⟩
 obtain⟨yL,hyL⟩:∃W,y10.alloc (.cells #[.string ⟨#[98]⟩,.string ⟨#[97]⟩,.string ⟨#[99]⟩] 9)=W:=⟨_,rfl⟩
 have kk:Kept y10 yL:=by rw[←hyL];exact kept_alloc _ _
 have hsz:yL.heap.size=gL+1:=by rw[←hyL,World.size_alloc,hgL]
 have HSgL:=lH hsz;have CL:=lH (show CellsN gL [.string ⟨#[98]⟩,.string ⟨#[97]⟩,.string ⟨#[99]⟩] yL from by
  have c:=freshN y10 (.string ⟨#[98]⟩) [.string ⟨#[97]⟩,.string ⟨#[99]⟩] 9 yL (by rw[hyL];exact Kept.refl _);rw[hgL] at c;exact c)
 have HGgL:=lH hgL;have HNyL:=lH hyL;clear hgL hyL hsz;have HLS:=lH (show Reads StrLay yL (.slice (some ⟨gL,0,none⟩) 3 3) [⟨#[98]⟩,⟨#[97]⟩,⟨#[99]⟩] from⟨_,3,rfl,(by decide:(3:Nat)≤3),(by decide:(3:Nat)≤maxLen),row_fresh rfl CL.out (fun x hx=>by
  rcases List.mem_cons.1 hx with rfl | hx
  · exact(by decide:(1:Nat)≤maxLen)
  rcases List.mem_cons.1 hx with rfl | hx
  · exact(by decide:(1:Nat)≤maxLen)
  obtain rfl:=List.mem_singleton.1 hx;exact(by decide:(1:Nat)≤maxLen)) (by decide:(3:Nat)≤maxLen)⟩)
 have HV:=lH (HV.out.kept kk);have KW:=lH (KW.out.trans kk);clear kk CL;go_wp2_with fail
 rw[HNyL.out];try rw[HGgL.out]
 refine(namesR HV.out HLS.out).mono ?_;rintro e ym ⟨rfl,kk⟩;have KW:=lH (KW.out.trans kk);clear kk;go_wp2;go_ret;exact⟨rfl,K.out.trans KW.out⟩
structure Sound (s:Clu):Prop where
 parts:Parts s
 asc:Asc s.pods
 need:∀p ∈ s.pods,Fit8 p.need
 cap:∀n ∈ s.nodes,Fit8 n.cap
theorem sound_of {s:Clu} {w:World} {v:Value} (h:goodSt s=true) (hr:CluR w v s):Sound s:=by
 have hp:=st_parts (good_chk h);obtain⟨v1,v2,v3,rfl,⟨a,cap,rfl,-,-,h1⟩,⟨b,cp,rfl,-,-,h2⟩,-⟩:=hr;refine⟨hp,good_asc h,fun p hm=>fit8_of (hp.need0 hm) ?_,fun n hm=>fit8_of (hp.cap0 hm) ?_⟩
 · obtain⟨k,hk,rfl⟩:=List.mem_iff_getElem.1 hm;rcases h2.2.2 with h0 | ⟨b,off,-,-,hc⟩
   · omega
   · obtain⟨v1,v2,v3,v4,-,-,-,-,-,-,-,-,-,-,-,hat⟩:=hc k _ (List.getElem?_eq_getElem hk);obtain⟨a9,c9,-,-,-,g⟩:=hat.need;exact g.2.2.1
 · obtain⟨k,hk,rfl⟩:=List.mem_iff_getElem.1 hm;rcases h1.2.2 with h0 | ⟨b,off,-,-,hc⟩
   · omega
   · obtain⟨a1,m1,c1,a2,m2,c2,a3,m3,c3,-,-,-,-,-,hat⟩:=hc k _ (List.getElem?_eq_getElem hk);obtain⟨a9,c9,-,-,-,g⟩:=hat.cap;exact g.2.2.1
end Go.Proofs.YtmlgobiifebjkacGreat
