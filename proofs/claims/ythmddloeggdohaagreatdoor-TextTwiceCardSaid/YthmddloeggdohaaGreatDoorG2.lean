/- What serves all packages,and package by package the contracts of the functions that the law calls. -/
import Derived.Test.YthmddloeggdohaaGreatDoorG0
import Derived.Test.YthmddloeggdohaaGreatDoorG1
import Derived.Lib.ItoaLen
import Derived.Lib.AppendIntMem
import Derived.Lib.SmallJoins
import Derived.StillTailTactics
import Derived.Test.YthmddloeggdohaaGreatDoorRows
import Derived.Stop.LaidErr
import Derived.Stop.Joined
import Derived.MakeChecks
set_option linter.unusedVariables false
set_option maxRecDepth 100000
set_option maxHeartbeats 25600000
namespace Go.Proofs.YthmddloeggdohaaGreatDoor.Vec
open Go.RowKit
theorem jf3 (C:Addr) (r:Int×V) (w:World) (hr:r.1≠0→r.2=[])
 (hk:∀W,Kept w W→Calls Tryz.prog 207 #[.pointer (some C)] W (zM r W.heap.size W)) :
 Calls Tryz.prog 206 #[.func (.func 207) #[] #[.pointer (some C)]] w (jaC r w):=by
 have hmf:=hmfL (P:=Tryz.prog);have HK:=lH hk;have HR:=lH hr;clear hk hr;obtain⟨r1,r2⟩:=r;go_enter_defers Tryz.func206,Tryz.ntmps206
 go_wp2_with fail
 refine(HK.out _ (ja _ _)).mono ?_;rintro e1 w1 ⟨h0,h1,hb⟩;have k1:=hb.size;simp only[World.size_alloc] at k1;have c2:=(hb.cell (p:=⟨w.heap.size,0,none⟩) (by simp))
 have z2:=(hb.frozen (p:=⟨w.heap.size,0,none⟩) (by simp))
 have e2':w1.cell? ⟨w.heap.size,0,none⟩=some (.int .i64 0):=by rw[c2];go_simp
 have y2:w1.frozen? ⟨w.heap.size,0,none⟩=false:=by rw[z2];go_simp
 clear c2 z2;have KB:=lH (show Below w.heap.size w w1 from(ja w _).trans hb);by_cases hx:r1=0
 · subst hx;obtain⟨v,rfl,ho⟩:=h0 rfl;have HO:=lH ho;obtain⟨av,cv,rfl,_,_,_⟩:=ho.at_;have hsz:=World.size_alloc w (.cells #[.int .i64 0] 32);clear h0 h1 hb ho;go_wp2_with fail
   refine leaves_cons (f:=251) (args:=#[.pointer (some ⟨w.heap.size,0,none⟩)]) (by simp) (by simp[go_sem]) ?_;refine(jah ⟨w.heap.size,0,none⟩ _).mono ?_;rintro e u' w'' ⟨rfl,rfl,rfl⟩;simp[Leaves,settle,results,Tryz.results206,go_sem,e2'];exact⟨_,rfl,(HO.out.setCell_below (a:=⟨w.heap.size,0,none⟩) (by simp) _).base_le (by simp),KB.out.setCell (p:=⟨w.heap.size,0,none⟩) (Nat.le_refl _) _⟩
 · obtain rfl:=h1 hx;obtain rfl:=HR.out hx;clear h0 h1 hb;go_wp2_with fail
   refine leaves_cons (f:=251) (args:=#[.pointer (some ⟨w.heap.size,0,none⟩)]) (by simp) (by simp[go_sem]) ?_;refine(Y3 w.heap.size w.heap.size r1 0 _ e2' y2 (by omega)).mono ?_;rintro e u' w'' ⟨rfl,rfl,q2,q3⟩;simp[Leaves,settle,results,Tryz.results206,go_sem,q2];exact⟨_,rfl,jH.nil _ _ _,KB.out.trans q3⟩
theorem jh3 (s:List UInt8):(Ju s).1≠0→(Ju s).2=[]:=by
 unfold Ju;split
 · exact fun _=>rfl
 · split
   · exact fun _=>rfl
   · split
     · exact fun _=>rfl
     · exact fun h=>absurd rfl h
theorem jfs (C:Addr) (s:List UInt8) (w:World) (h1:w.cell? C=some (.string (bytes s))) (hE:Env w) (hs:s.length≤1000000) :
 Calls Tryz.prog 207 #[.pointer (some C)] w (zM (Ju s) w.heap.size w):=by
 have HE:=lH hE;clear hE;go_enter Tryz.func207,Tryz.ntmps207;go_wp2_with fail
 refine(ji6 s _ HE.out hs).mono ?_;rintro e w' ⟨g0,g1,k⟩;by_cases hx:(Ju s).1=0
 · obtain⟨v,rfl,ho⟩:=g0 hx;have HX:=lH hx;have HO:=lH ho;have HK:=lH k;clear g0 g1 hx ho k;go_wp2;go_ret;exact zM.good HX.out HO.out HK.out
 · obtain rfl:=g1 hx;have HX:=lH hx;have HK:=lH k;clear g0 g1 hx k;go_wp2;exact⟨rfl,zM.bad rfl HX.out HK.out⟩
def Z0 (s:List UInt8):Int×V:=if s=[45] then (0,[]) else Ju s
theorem X6 (s:List UInt8) (w:World) (hE:Env w) (hs:s.length≤1000000) :
 Calls Tryz.prog 162 #[.string (bytes s)] w (jaC (Z0 s) w):=by
 by_cases hd:s=[45]
 · have HV:=lH (show Z0 s=(0,[]) by unfold Z0;rw[if_pos hd]);have e:((bytes s).toList==[45])=true:=by rw[hd,Lib.toList_data];rfl
   clear hE hs hd;go_enter Tryz.func162,Tryz.ntmps162;go_wp2;go_ret2
   exact⟨_,by rw[HV.out];rfl,by rw[HV.out];exact jH.nil _ _ _,ja _ _⟩
 · have HV:=lH (show Z0 s=Ju s by unfold Z0;rw[if_neg hd]);have e:((bytes s).toList==[45])=false:=by
    rw[Lib.toList_data];show (s.toArray.toList==[45])=false;simpa using hd
   have hmf:=hmfL (P:=Tryz.prog);have hC:∀W,Kept (w.alloc (.cells #[.string (bytes s)] 9)) W→Calls Tryz.prog 207 #[.pointer (some ⟨w.heap.size,0,none⟩)] W (zM (Ju s) W.heap.size W):=by
    intro W k;have c1:=k.cell (p:=⟨w.heap.size,0,none⟩) (by simp);exact jfs ⟨w.heap.size,0,none⟩ s W (by rw[c1];go_simp) (hE.kept ((ja w _).trans k)) hs
   have HC:=lH hC;clear hC hE hs hd;go_enter Tryz.func162,Tryz.ntmps162;go_wp2_with fail
   refine(jf3 ⟨w.heap.size,0,none⟩ (Ju s) _ (jh3 s) HC.out).mono ?_;rintro e w' ⟨v,rfl,ho,k⟩;have HO:=lH ho;have HK:=lH k;clear ho k;go_wp2;go_ret2
   exact⟨v,by rw[HV.out];rfl,by rw[HV.out];exact HO.out.base_le (by simp),(ja w _).trans HK.out⟩
theorem jgW (C:Addr) (a:Option Addr) (len cap:Nat) (l:V) (w:World)
 (hk:∀W,Kept w W→Calls Tryz.prog 264 #[.pointer (some C)] W (Chk l (.slice a len cap) W)) :
 Calls Tryz.prog 206 #[.func (.func 264) #[] #[.pointer (some C)]] w (fun e w'=>∃v,e=.returned (.tuple #[v,.int .i64 (jm l)])∧Kept w w'):=by
 have hmf:=hmfL (P:=Tryz.prog);have HK:=lH hk;clear hk;obtain⟨r1,hr1⟩:∃r1,jm l=r1:=⟨_,rfl⟩
 rw[hr1];have HR1:=lH hr1;clear hr1;go_enter_defers Tryz.func206,Tryz.ntmps206
 go_wp2_with fail
 refine(HK.out _ (ja _ _)).mono ?_;rintro e1 w1 ⟨h0,h1,hb⟩;have k1:=hb.size;simp only[World.size_alloc] at k1;have c2:=(hb.cell (p:=⟨w.heap.size,0,none⟩) (by simp))
 have z2:=(hb.frozen (p:=⟨w.heap.size,0,none⟩) (by simp))
 have e2':w1.cell? ⟨w.heap.size,0,none⟩=some (.int .i64 0):=by rw[c2];go_simp
 have y2:w1.frozen? ⟨w.heap.size,0,none⟩=false:=by rw[z2];go_simp
 clear c2 z2;have KB:=lH (show Below w.heap.size w w1 from(ja w _).trans hb);rw[HR1.out] at h0 h1;by_cases hx:r1=0
 · subst hx;obtain rfl:=h0 rfl;have hsz:=World.size_alloc w (.cells #[.int .i64 0] 32);clear h0 h1 hb;go_wp2_with fail
   refine leaves_cons (f:=251) (args:=#[.pointer (some ⟨w.heap.size,0,none⟩)]) (by simp) (by simp[go_sem]) ?_;refine(jah ⟨w.heap.size,0,none⟩ _).mono ?_;rintro e u' w'' ⟨rfl,rfl,rfl⟩;simp[Leaves,settle,results,Tryz.results206,go_sem,e2'];exact KB.out.setCell (p:=⟨w.heap.size,0,none⟩) (Nat.le_refl _) _
 · obtain rfl:=h1 hx;clear h0 h1 hb;go_wp2_with fail
   refine leaves_cons (f:=251) (args:=#[.pointer (some ⟨w.heap.size,0,none⟩)]) (by simp) (by simp[go_sem]) ?_;refine(Y3 w.heap.size w.heap.size r1 0 _ e2' y2 (by omega)).mono ?_;rintro e u' w'' ⟨rfl,rfl,q2,q3⟩;simp[Leaves,settle,results,Tryz.results206,go_sem,q2];exact KB.out.trans q3
theorem jff (C:Addr) (a:Option Addr) (len cap:Nat) (l:V) (w:World) (h1:w.cell? C=some (.slice a len cap)) (hr:jt w a len l) :
 Calls Tryz.prog 264 #[.pointer (some C)] w (Chk l (.slice a len cap) w):=by
 have HR:=lH hr;clear hr;go_enter Tryz.func264,Tryz.ntmps264;go_wp2_with fail
 refine(Zo a len cap l _ HR.out).mono ?_;rintro e w' ⟨g0,g1,k⟩;by_cases hx:jm l=0
 · obtain rfl:=g0 hx;have HX:=lH hx;have HK:=lH k;clear g0 g1 hx k;go_wp2;go_ret;exact Chk.good HX.out HK.out
 · obtain rfl:=g1 hx;have HX:=lH hx;have HK:=lH k;clear g0 g1 hx k;go_wp2;exact⟨rfl,Chk.bad rfl HX.out HK.out⟩
theorem qV (a:Option Addr) (len cap:Nat) (l:V) (w:World) (hr:jt w a len l) :
 Calls Tryz.prog 220 #[.slice a len cap] w fun e w'=>e=.returned (.int .i64 (jm l))∧Kept w w':=by
 have hmf:=hmfL (P:=Tryz.prog);have hC:∀W,Kept (w.alloc (.cells #[.slice a len cap] 37)) W→Calls Tryz.prog 264 #[.pointer (some ⟨w.heap.size,0,none⟩)] W (Chk l (.slice a len cap) W):=by
  intro W k;have c1:=k.cell (p:=⟨w.heap.size,0,none⟩) (by simp);exact jff ⟨w.heap.size,0,none⟩ a len cap l W (by rw[c1];go_simp) (hr.kept ((ja w _).trans k))
 have HC:=lH hC;clear hC hr;go_enter Tryz.func220,Tryz.ntmps220;go_wp2_with fail
 refine(jgW ⟨w.heap.size,0,none⟩ a len cap l _ HC.out).mono ?_;rintro e w' ⟨v,rfl,k⟩;have HK:=lH k;clear k;go_wp2;go_ret;exact⟨rfl,(ja w _).trans HK.out⟩
open Go.RowKit Go.Shelf
theorem jmS:(Tryz.prog.info? 54).map (·.size)=some 2:=by kernel_rfl
theorem joz:liesAt Tryz.prog Tryz.prog.depth 54 (2 / Tryz.prog.cellsOf 54) 0 54 1=true:=by kernel_rfl
theorem jmo:(Tryz.prog.info? 5).map (fun i=>(i.zero,i.size,i.bytes))=some (some (.int .u8 0),1,1):=by kernel_rfl
abbrev IsB (B b:Nat) (l:List UInt8) (w:World):Prop:=Lib.IsBuilder 54 5 B b (Lib.byteCells l) w
theorem jkk (b:Nat) (w:World) (h0:w.cell? ⟨b,0,none⟩=some (.pointer (some ⟨b,0,none⟩))) :
 Calls Tryz.prog 67 #[.pointer (some ⟨b,0,none⟩)] w fun e w'=>e=.returned (.tuple #[])∧w'=w:=by
 obtain⟨j,hj,_⟩:=Option.map_eq_some_iff.1 jmS;go_enter Tryz.func67,Tryz.ntmps67;go_wp2;rw[Lib.run_neq_ptr_same w _ Tryz.underlying51 hj];go_wp2;go_end0
 exact⟨rfl,rfl⟩
theorem ji7 (b:Nat) (w:World) (h0:w.cell? ⟨b,0,none⟩=some (.pointer none)) (hsh:w.shape? b=some (54,2)) (hfz:w.frozen? ⟨b,0,none⟩=false) :
 Calls Tryz.prog 67 #[.pointer (some ⟨b,0,none⟩)] w fun e w'=>e=.returned (.tuple #[])∧w'=w.setCell ⟨b,0,none⟩ (.pointer (some ⟨b,0,none⟩)):=by
 obtain⟨j,hj,hjs⟩:=Option.map_eq_some_iff.1 jmS;go_enter Tryz.func67,Tryz.ntmps67;go_wp2;rw[Lib.run_to_unsafe w ⟨b,0,none⟩ Tryz.underlying51 Tryz.underlying191 hj (by rw[hjs];decide) hsh (Nat.zero_lt_succ 1)];simp only[Result.andThen];rw[Oper.upon_value];go_wp2;rw[run_callFunc_extern Tryz.func113 (by kernel_rfl) (by kernel_rfl) (by kernel_rfl) (e:=Extern.AbiNoEscape.same) (by kernel_rfl)];rw[Lib.run_noEscape];simp only[Result.andThen];rw[Oper.upon_value];go_wp2;rw[Lib.run_from_unsafe w ⟨b,0,none⟩ Tryz.underlying191 Tryz.underlying51 hj hsh joz];simp only[Result.andThen];rw[Oper.upon_value];go_wp2;go_end0
 exact⟨rfl,rfl⟩
theorem jlM (B b:Nat) (l:List UInt8) (w:World) (h:IsB B b l w) :
 Calls Tryz.prog 67 #[.pointer (some ⟨b,0,none⟩)] w fun e w'=>e=.returned (.tuple #[])∧(Lib.BuilderAt 54 5 B b (.pointer (some ⟨b,0,none⟩)) (Lib.byteCells l) w'∧Below B w w'∧∀g,g≠b→w'.heap[g]?=w.heap[g]?):=by
 rcases h with h | h
 · refine(ji7 b w h.cell0 h.shape h.frozen0).mono ?_;rintro e w' ⟨rfl,rfl⟩;exact⟨rfl,h.used _,(Below.refl B w).setCell (p:=⟨b,0,none⟩) h.1 _,fun g hg=>Below.heap_setCell w ⟨b,0,none⟩ _ g hg⟩
 · refine(jkk b w h.cell0).mono ?_;rintro e w' ⟨rfl,rfl⟩;exact⟨rfl,h,Below.refl _ _,fun _ _=>rfl⟩
theorem IsB.lt {B b:Nat} {l:List UInt8} {w:World} (h:IsB B b l w):b<w.heap.size:=by
 rcases h with h | h<;>exact h.lt
theorem IsB.kept {B b:Nat} {l:List UInt8} {w w':World} (h:IsB B b l w) (k:Kept w w'):IsB B b l w':=by
 have key:∀p,Lib.BuilderAt 54 5 B b p (Lib.byteCells l) w→Lib.BuilderAt 54 5 B b p (Lib.byteCells l) w':=by
  rintro p ⟨hB,v,hb,⟨h0,h1⟩,hne⟩;refine⟨hB,v,(k.block b (Array.getElem?_eq_some_iff.1 hb).1).trans hb,⟨h0,h1.imp id ?_⟩,hne⟩;rintro ⟨g,cap,cur,rfl,hbg,hg,rest⟩;exact⟨g,cap,cur,rfl,hbg,(k.block g (Array.getElem?_eq_some_iff.1 hg).1).trans hg,rest⟩
 exact h.imp (key _) (key _)
def jam (b:Nat) (w w':World):Prop:=∀g cs fr,g≠b→w.heap[g]?=some (.cells cs 140 fr)→w'.heap[g]?=w.heap[g]?
theorem jam.trans {b:Nat} {x y z:World} (h:jam b x y) (k:jam b y z):jam b x z:=fun g cs fr hg hc=>(k g cs fr hg ((h g cs fr hg hc).trans hc)).trans (h g cs fr hg hc)
def joW (B b:Nat) (l:List UInt8) (n:Nat) (w:World) (e:Ending) (w':World):Prop:=e=.returned (.tuple #[.int .i64 (n:Int),.nilIface])∧IsB B b l w'∧Below B w w'∧jam b w w'
theorem Zq (B b:Nat) (l:List UInt8) (s:ByteArray) (w:World) (h:IsB B b l w) (hlen:l.length+s.size≤140737488355328) (hBw:B≤w.heap.size) :
 Calls Tryz.prog 36 #[.pointer (some ⟨b,0,none⟩),.string s] w (joW B b (l++s.data.toList) s.size w):=by
 obtain⟨i0,hi,hz0,hz1,hz2⟩:=info_parts jmo;go_enter Tryz.func36,Tryz.ntmps36;go_wp2_with fail
 refine(jlM B b l _ h).mono ?_;rintro e w1 ⟨rfl,h1,hb1,ho1⟩;obtain⟨hB,v,hbk,hown,hne⟩:=h1;have c0:w1.cell? ⟨b,0,none⟩=some (.pointer (some ⟨b,0,none⟩)):=by rw[Lib.cell_of_heap hbk];rfl
 have c1:w1.cell? ⟨b,1,none⟩=some v:=by rw[Lib.cell_of_heap hbk];rfl
 have hll:(Lib.byteCells l).length=l.length:=Lib.byteCells_length l;have HLL:=lH hll;clear hll;go_wp2_with (at_builtin;refine Lib.wpList_append_own_string _ rfl _ _ 52 9 rfl B 5 i0 Tryz.underlying52 Tryz.underlying9 hi hz0 hz1 hz2 _ _ _ rfl hown s rfl (by rw[HLL.out];unfold maxLen;omega) (by rw[HLL.out];omega) (by have:=hb1.size;omega) ?_;intro v' w2 hown' hgrow _;refine Hid.out ?_)
 refine lH ?_;have hlt:b<w1.heap.size:=(Array.getElem?_eq_some_iff.1 hbk).1;have hb2:w2.heap[b]?=some (.cells #[.pointer (some ⟨b,0,none⟩),v] 54 (0,0)):=by
  rw[hgrow.block b hlt (fun e=>hne e.symm)];exact hbk
 have d0:w2.cell? ⟨b,0,none⟩=some (.pointer (some ⟨b,0,none⟩)):=by rw[Lib.cell_of_heap hb2];rfl
 have d1:w2.cell? ⟨b,1,none⟩=some v:=by rw[Lib.cell_of_heap hb2];rfl
 have f1:w2.frozen? ⟨b,1,none⟩=false:=Lib.frozen_of_heap hb2 1;obtain⟨ao,n',cap,rfl⟩:∃ao n' cap,v'=.slice ao n' cap:=by
  rcases hown'.2 with ⟨hv,_⟩ | ⟨g,cap,cur,hv,_⟩
  · exact⟨_,_,_,hv⟩
  · exact⟨_,_,_,hv⟩
 have HG:=lH (hb1.grown hgrow (by have:=hb1.size;omega) (fun k hk=>(hown.lt k hk).1));have HO:=lH hown';have HOT:=lH (show jam b w w2 from fun g cs fr hg hc=>by
  have hc1:=(ho1 g hg).trans hc;refine(hgrow.block g (Array.getElem?_eq_some_iff.1 hc1).1 (fun e=>?_)).trans (ho1 g hg);rcases hown.2 with ⟨rfl,_⟩ | ⟨g',cap',cur,rfl,_,hg',_⟩
  · cases e
  · have e2:(some g:Option Nat)=some g':=e;injection e2 with e2;subst e2;rw[hg'] at hc1;injection hc1 with hc1;injection hc1 with _ ht;exact absurd ht (by decide))
 have HB2:=lH hb2;clear hbk hown hne hown' hgrow hb2 hi hz0 hz1 hz2 h hb1 c0 c1 ho1;go_wp2;go_ret2
 refine⟨rfl,.inr ?_,HG.out.setCell (p:=⟨b,1,none⟩) hB _,HOT.out.trans (fun g cs fr hg _=>Below.heap_setCell w2 ⟨b,1,none⟩ _ g hg)⟩;refine Lib.BuilderAt.put (T:=54) (e:=5) hB HB2.out (bs':=Lib.byteCells (l++s.data.toList)) ?_ (by decide);have:=HO.out;rw[HLL.out] at this;have e1:Lib.byteCells (l++s.data.toList)=Lib.byteCells l++Lib.strCells s:=by simp[Lib.byteCells,Lib.strCells]
 rw[e1,List.length_append,HLL.out,Lib.strCells_length];exact this
structure EnvT (w:World):Prop extends Env w where
 tab:Lib.TabIs Tryz.prog w "internal/strconv.uint64pow10" .u64 Lib.pow10Tab
theorem jip:Tryz.prog.globalNamed "internal/strconv.uint64pow10"=some 0:=by kernel_rfl
theorem EnvT.kept {w w':World} (h:EnvT w) (k:Kept w w'):EnvT w':=by
 refine⟨h.toEnv.kept k,Joins.tab_stays jip h.tab k (Nat.le_refl _)⟩
def j8 (first:Bool):V→List UInt8
 | []=>[]
 | x::t=>(if first=true then [] else [44])++(x.1.data.toList++([61]++(Lib.itoa x.2++j8 false t)))
def j7 (l:V):List UInt8:=if l=[] then [45] else j8 true l
theorem qe:∀{l:V} {k:Nat},JV l=true→k<l.length→(nm l k).size≤50
 | [],_,_,h=>absurd h (by simp)
 | x::t,0,h,_=>by
  simp only[JV,Bool.and_eq_true,decide_eq_true_eq] at h;exact h.1
 | x::t,k+1,h,hk=>by
  simp only[JV,Bool.and_eq_true,decide_eq_true_eq] at h;show (nm t k).size≤50;exact qe h.2 (by simpa using hk)
theorem jdW (n:Int) (w:World) (hE:EnvT w) (h0:-9223372036854775808≤n) (h1:n≤9223372036854775807) :
 Calls Tryz.prog 69 #[.int .i64 n,.int .i64 10] w fun e w'=>e=.returned (.string (bytes (Lib.itoa n)))∧Kept w w':=by
 refine(Tryz.strconv_FormatInt_10 n h0 h1 w hE.tab).mono ?_;rintro e w' ⟨rfl,k,os,rfl⟩;exact⟨rfl,Lib.below_grow _ _ (Nat.le_refl _) _ _⟩
theorem ji (l:List UInt8):(bytes l).size=l.length:=rfl
theorem jdd (a:Option Addr) (len cap:Nat) (l:V) (w:World) (hE:EnvT w) (hr:jt w a len l) (hfew:Zv l=true) :
 Calls Tryz.prog 38 #[.slice a len cap] w fun e w'=>e=.returned (.string (bytes (j7 l)))∧Kept w w':=by
 have hl:=hr.1;have hf:=hr.2.2.1;unfold Zv at hfew;simp only[Bool.and_eq_true,decide_eq_true_eq] at hfew;have h20:len≤20:=by omega
 rcases hr.form with h0 | ⟨b,off,rfl⟩
 · subst h0;have HE:=lH (show j7 l=[45] by rw[List.eq_nil_of_length_eq_zero hl];rfl);clear hr hl hf hfew hE;go_enter Tryz.func38,Tryz.ntmps38;go_wp2;go_ret;exact⟨by rw[HE.out];rfl,Kept.refl _⟩
 · by_cases h0:len=0
   · subst h0;have HE:=lH (show j7 l=[45] by rw[List.eq_nil_of_length_eq_zero hl];rfl);clear hr hl hf hfew hE;go_enter Tryz.func38,Tryz.ntmps38;go_wp2;go_ret;exact⟨by rw[HE.out];rfl,Kept.refl _⟩
   · have hne:((len:Int)==0)=false:=by
      have:(len:Int)≠0:=by omega
      simpa using this
     have HV:=lH (show j7 l=j8 true l by unfold j7;rw[if_neg (by intro e;rw[e] at hl;simp at hl;omega)]);have HS:=lH (fun k (hk:k<l.length)=>qe hfew.2 hk);have HF:=lH hf;have HR:=lH hr;have HL:=lH hl;have HE:=lH hE;clear hr hl hf hfew hE h0;go_enter Tryz.func38,Tryz.ntmps38;go_wp2;go_loopw [11] (fun i wr=>∃(k:Nat) (acc:List UInt8),k≤len∧i=.int .i64 k∧acc++j8 (decide (k=0)) (l.drop k)=j8 true l∧acc.length≤k*80∧IsB w.heap.size w.heap.size acc wr∧Below w.heap.size w wr) (fun i _=>len-(intOf i).toNat)
     case atStart=>exact⟨0,[],Nat.zero_le _,rfl,rfl,Nat.le_refl _,Lib.fresh_isBuilder _ _ w,ja _ _⟩
     case round =>
      obtain⟨k,acc,hk,rfl,hrest,hacc,hI,hB⟩:=hrel;have HB:=lH hB;by_cases hlt:k<len
      · obtain⟨hb,c1,c2⟩:=(HR.out.kept hB).cells hlt;have HI:=lH (show k<l.length by rw[HL.out];exact hlt);have hs50:=HS.out k HI.out;have hq:=(HF.out k HI.out).2;have HIT:=lH (Lib.itoa_length_le (qn l k) hq.1 hq.2);have HREST:=lH (show acc++(if decide (k=0)=true then [] else [44])++(nm l k).data.toList++[61]++Lib.itoa (qn l k)++j8 (decide (k+1=0)) (l.drop (k+1))=j8 true l by
         rw[←hrest,drop_cons HI.out];simp[j8,List.append_assoc])
        have hszn:(nm l k).data.toList.length=(nm l k).size:=by rw[Array.length_toList,ByteArray.size_data]
        have HSZ:=lH hszn;obtain⟨W1,hW1⟩:∃W1,wr.alloc (.cells #[.string (nm l k),.int .i64 (qn l k)] 140)=W1:=⟨_,rfl⟩
        have I1:=lH (show IsB w.heap.size w.heap.size acc W1 by rw[←hW1];exact hI.kept (ja wr _));have B1:=lH (show Below w.heap.size w W1 by rw[←hW1];exact hB.trans (Below.mono (ja wr _) hB.size));have A1:=lH (show W1.heap[wr.heap.size]?=some (.cells #[.string (nm l k),.int .i64 (qn l k)] 140 (0,0)) by rw[←hW1];exact World.alloc_heap_new wr _);have hne2:wr.heap.size≠w.heap.size:=by have:=hI.lt;omega
        have HW1:=lH hW1;clear hrest hI hB hszn hW1;by_cases hk0:k=0
        · have hd:decide (0<k)=false:=by subst hk0;decide
          have HREST:=lH (show acc++(nm l k).data.toList++[61]++Lib.itoa (qn l k)++j8 (decide (k+1=0)) (l.drop (k+1))=j8 true l by
           have:=HREST.out;rw[decide_eq_true hk0] at this;simpa using this)
          clear hk0;go_wp2_with fail
          rw[HW1.out];have a1:W1.cell? ⟨wr.heap.size,0,none⟩=some (.string (nm l k)):=by rw[Lib.cell_of_heap A1.out];rfl
          go_wp2_with fail
          refine(Zq w.heap.size w.heap.size acc (nm l k) _ I1.out (by omega) B1.out.size).mono ?_;rintro e w2 ⟨rfl,i2,b2,o2⟩;have B2:=lH (B1.out.trans b2);have I2:=lH i2;have A2:=lH ((o2 _ _ _ hne2 A1.out).trans A1.out);clear i2 b2 o2 a1;go_wp2_with fail
          refine(Zq w.heap.size w.heap.size (acc++(nm l k).data.toList) (bytes [61]) _ I2.out (by rw[List.length_append];have e1:(bytes [61]).size=1:=rfl;have e3:=HSZ.out;omega) B2.out.size).mono ?_;rintro e w3 ⟨rfl,i3,b3,o3⟩;have B3:=lH (B2.out.trans b3);have I3:=lH (show IsB w.heap.size w.heap.size (acc++(nm l k).data.toList++[61]) w3 from i3);have A3:=lH ((o3 _ _ _ hne2 A2.out).trans A2.out);clear i3 b3 o3;have a2:w3.cell? ⟨wr.heap.size,1,none⟩=some (.int .i64 (qn l k)):=by rw[Lib.cell_of_heap A3.out];rfl
          go_wp2_with fail
          refine(jdW (qn l k) _ (HE.out.kept B3.out) hq.1 hq.2).mono ?_;rintro e w4 ⟨rfl,k4⟩;have B4:=lH (B3.out.trans (Below.mono k4 B3.out.size));have I4:=lH (I3.out.kept k4);clear k4 a2;have SZ4:=lH (show (acc++(nm l k).data.toList++[61]).length+(bytes (Lib.itoa (qn l k))).size≤140737488355328 by
           have e1:(bytes (Lib.itoa (qn l k))).size=(Lib.itoa (qn l k)).length:=ji _;have e2:=HIT.out;have e3:=HSZ.out;simp only[List.length_append,List.length_cons,List.length_nil];omega)
          go_wp2_with fail
          refine(Zq w.heap.size w.heap.size (acc++(nm l k).data.toList++[61]) (bytes (Lib.itoa (qn l k))) _ I4.out SZ4.out B4.out.size).mono ?_;rintro e w5 ⟨rfl,i5,b5,-⟩;have B5:=lH (B4.out.trans b5);have I5:=lH (show IsB w.heap.size w.heap.size (acc++(nm l k).data.toList++[61]++Lib.itoa (qn l k)) w5 from i5);clear i5 b5;go_wp2_with fail
          go_roundw
          case rel =>
           refine⟨k+1,acc++(nm l k).data.toList++[61]++Lib.itoa (qn l k),by omega,by go_num,HREST.out,?_,I5.out,B5.out⟩;have e2:=HIT.out;have e3:=HSZ.out;simp only[List.length_append,List.length_cons,List.length_nil];omega
          case measure=>simp[intOf];omega
        · have hd:decide (0<k)=true:=decide_eq_true (by omega);have HREST:=lH (show acc++[44]++(nm l k).data.toList++[61]++Lib.itoa (qn l k)++j8 (decide (k+1=0)) (l.drop (k+1))=j8 true l by
           have:=HREST.out;rw[decide_eq_false hk0] at this;simpa using this)
          have hk0:0<k:=by omega
          go_wp2_with fail
          rw[HW1.out];refine(Zq w.heap.size w.heap.size acc (bytes [44]) _ I1.out (by have e1:(bytes [44]).size=1:=rfl;omega) B1.out.size).mono ?_;rintro e w0 ⟨rfl,i0,b0,o0⟩;have B1:=lH (B1.out.trans b0);have I1:=lH (show IsB w.heap.size w.heap.size (acc++[44]) w0 from i0);have A1:=lH ((o0 _ _ _ hne2 A1.out).trans A1.out);clear i0 b0 o0;have SZ1:=lH (show (acc++[44]).length+(nm l k).size≤140737488355328 by
           simp only[List.length_append,List.length_cons,List.length_nil];omega)
          have SZ2:=lH (show (acc++[44]++(nm l k).data.toList).length+(bytes [61]).size≤140737488355328 by
           have e1:(bytes [61]).size=1:=rfl;have e3:=HSZ.out;simp only[List.length_append,List.length_cons,List.length_nil];omega)
          have a1:w0.cell? ⟨wr.heap.size,0,none⟩=some (.string (nm l k)):=by rw[Lib.cell_of_heap A1.out];rfl
          go_wp2_with fail
          refine(Zq w.heap.size w.heap.size (acc++[44]) (nm l k) _ I1.out SZ1.out B1.out.size).mono ?_;rintro e w2 ⟨rfl,i2,b2,o2⟩;have B2:=lH (B1.out.trans b2);have I2:=lH i2;have A2:=lH ((o2 _ _ _ hne2 A1.out).trans A1.out);clear i2 b2 o2 a1;go_wp2_with fail
          refine(Zq w.heap.size w.heap.size (acc++[44]++(nm l k).data.toList) (bytes [61]) _ I2.out SZ2.out B2.out.size).mono ?_;rintro e w3 ⟨rfl,i3,b3,o3⟩;have B3:=lH (B2.out.trans b3);have I3:=lH (show IsB w.heap.size w.heap.size (acc++[44]++(nm l k).data.toList++[61]) w3 from i3);have A3:=lH ((o3 _ _ _ hne2 A2.out).trans A2.out);clear i3 b3 o3;have a2:w3.cell? ⟨wr.heap.size,1,none⟩=some (.int .i64 (qn l k)):=by rw[Lib.cell_of_heap A3.out];rfl
          go_wp2_with fail
          refine(jdW (qn l k) _ (HE.out.kept B3.out) hq.1 hq.2).mono ?_;rintro e w4 ⟨rfl,k4⟩;have B4:=lH (B3.out.trans (Below.mono k4 B3.out.size));have I4:=lH (I3.out.kept k4);clear k4 a2;have SZ4:=lH (show (acc++[44]++(nm l k).data.toList++[61]).length+(bytes (Lib.itoa (qn l k))).size≤140737488355328 by
           have e1:(bytes (Lib.itoa (qn l k))).size=(Lib.itoa (qn l k)).length:=ji _;have e2:=HIT.out;have e3:=HSZ.out;simp only[List.length_append,List.length_cons,List.length_nil];omega)
          go_wp2_with fail
          refine(Zq w.heap.size w.heap.size (acc++[44]++(nm l k).data.toList++[61]) (bytes (Lib.itoa (qn l k))) _ I4.out SZ4.out B4.out.size).mono ?_;rintro e w5 ⟨rfl,i5,b5,-⟩;have B5:=lH (B4.out.trans b5);have I5:=lH (show IsB w.heap.size w.heap.size (acc++[44]++(nm l k).data.toList++[61]++Lib.itoa (qn l k)) w5 from i5);clear i5 b5;go_wp2_with fail
          go_roundw
          case rel =>
           refine⟨k+1,acc++[44]++(nm l k).data.toList++[61]++Lib.itoa (qn l k),by omega,by go_num,HREST.out,?_,I5.out,B5.out⟩;have e2:=HIT.out;have e3:=HSZ.out;simp only[List.length_append,List.length_cons,List.length_nil];omega
          case measure=>simp[intOf];omega
      · have HD:=lH (show acc=j8 true l by rw[←hrest,List.drop_of_length_le (by rw[HL.out];omega)];simp[j8]);have HI:=lH hI;clear hrest hI hB;go_wp2_with fail
        refine(Tryz.Builder_String_any w.heap.size w.heap.size acc _ HI.out HB.out.size).mono ?_;rintro e w1 ⟨rfl,hb1⟩;have HB1:=lH hb1;clear hb1;go_wp2;go_ret;exact⟨by rw[HV.out,←HD.out];rfl,HB.out.trans HB1.out⟩
theorem Reads.nil (w:World):Reads w (.slice none 0 0) []:=⟨none,0,rfl,Nat.le_refl _,by decide,jt.nil w⟩
theorem jbJ {v:Value} {l:V} {c:Int} {w:World} (h:Reads w v l) (e:jm l=c) :
 Calls Tryz.prog 220 #[v] w fun x w'=>x=.returned (.int .i64 c)∧Kept w w':=by
 subst e;obtain⟨a,cap,rfl,h1,h2,h3⟩:=h;exact qV a _ cap l w h3
theorem Z1 {v:Value} {l:V} {c:Int} {w:World} (h:Reads w v l) (e:jm l=c) :
 Calls Tryz.prog 99 #[v] w fun x w'=>x=.returned (.int .i64 c)∧Kept w w':=by
 subst e;obtain⟨a,cap,rfl,h1,h2,h3⟩:=h;exact Xq a _ cap l w h3
theorem jdQ {v:Value} {l:V} {s:List UInt8} {w:World} (hE:EnvT w) (h:Reads w v l) (hf:Zv l=true) (e:j7 l=s) :
 Calls Tryz.prog 38 #[v] w fun x w'=>x=.returned (.string (bytes s))∧Kept w w':=by
 subst e;obtain⟨a,cap,rfl,h1,h2,h3⟩:=h;exact jdd a _ cap l w hE h3 hf
theorem jmP {v v':Value} {l l':V} {c:Bool} {w:World} (h:Reads w v l) (h':Reads w v' l') (e:jP l' l=c) :
 Calls Tryz.prog 145 #[v,v'] w fun x w'=>x=.returned (.bool c)∧Kept w w':=by
 subst e;obtain⟨a,cap,rfl,h1,h2,h3⟩:=h;obtain⟨a',cap',rfl,h1',h2',h3'⟩:=h';exact jmn a a' _ cap _ cap' l l' w h3 h3'
theorem jaF {n:ByteArray} {c:Bool} {w:World} (h:n.size≤maxLen) (e:isName n=c) :
 Calls Tryz.prog 219 #[.string n] w fun x w'=>x=.returned (.bool c)∧w=w':=by
 subst e;exact zk n w h
theorem jf9 {v:Value} {l:V} {c:Bool} {w:World} (h:Reads w v l) (e:Zv l=c) :
 Calls Tryz.prog 55 #[v] w fun x w'=>x=.returned (.bool c)∧w=w':=by
 subst e;obtain⟨a,cap,rfl,h1,h2,h3⟩:=h;exact jeg a _ cap l w h3
def cpu:ByteArray:=⟨#[99,112,117]⟩
def mem:ByteArray:=⟨#[109,101,109]⟩
def kA:V:=[(cpu,100),(mem,5)]
theorem jic:(Tryz.prog.info? 134).map (fun i=>(i.zero,i.size,i.bytes))=some (some (.agg #[.string ByteArray.empty,.int .i64 0]),2,24):=by kernel_rfl
theorem jeR {l:V} {k:Nat} (h:k<l.length):l.take (k+1)=l.take k++[(nm l k,qn l k)]:=by
 rw[List.take_add_one];congr 1;have:l.getD k (ByteArray.empty,0)=l[k]:=by simp[List.getD,h]
 have e:(nm l k,qn l k)=l[k]:=by simp only[nm,qn,this]
 rw[e];simp[h]
theorem jfY (a:Option Addr) (len cap:Nat) (l:V) (w:World) (hr:jt w a len l) (hlen:len≤1000000) :
 Calls Tryz.prog 108 #[.slice a len cap] w (fun e w'=>∃x,e=.returned x∧jH 134 w' w.heap.size x l∧Kept w w'):=by
 have hl:=hr.1;obtain⟨i0,hi,hz0,hz1,hz2⟩:=info_parts jic;rcases hr.form with h0 | ⟨b,off,rfl⟩
 · subst h0;have hl0:l=[]:=List.eq_nil_of_length_eq_zero hl;subst hl0;clear hr hl hi hz0 hz1 hz2;go_enter Tryz.func108,Tryz.ntmps108;go_wp2;refine wp_loop_rounds 1 ?_;rw[rounds_succ];go_wp2;go_ret;exact⟨_,rfl,jH.nil _ _ _,Kept.refl _⟩
 · have HR:=lH hr;have HL:=lH hl;have HF:=lH hr.2.2.1;clear hr hl;go_enter Tryz.func108,Tryz.ntmps108;go_wp2;go_loopw [3,4] (fun v i wr=>∃k:Nat,k≤len∧i=.int .i64 k∧jH 134 wr w.heap.size v (l.take k)∧Below w.heap.size w wr) (fun _ i _=>len-(intOf i).toNat)
   case atStart=>exact⟨0,Nat.zero_le _,rfl,jH.nil _ _ _,Below.refl _ _⟩
   case round =>
    obtain⟨k,hk,rfl,ho,hB⟩:=hrel;have HO:=lH ho;have HB:=lH hB;have HT:=lH (show (l.take k).length=k by rw[List.length_take,HL.out];omega);have HOWN:=lH (show wr.ownsRow w.heap.size 134 2 u3 k (cellsOf (l.take k)) by have:=HO.out.1;rw[HT.out] at this;exact this);by_cases hlt:k<len
    · obtain⟨hb,c1,c2⟩:=(HR.out.kept hB).cells hlt;have HI:=lH (show k<l.length by rw[HL.out];exact hlt);have hbw:b<w.heap.size:=(HR.out.cells hlt).1;have hbase:w.heap.size≤wr.heap.size:=hB.size;have HNE:=lH (show u3.ownBlock≠some b by
       intro e;have:=(HOWN.out.lt b e).1;omega)
      have HBASE:=lH (show w.heap.size≤(wr.alloc (.cells #[.string (nm l k),.int .i64 (qn l k)] 134)).drew.heap.size by simp;omega);have HBD:=lH (show Below w.heap.size w ((wr.alloc (.cells #[.string (nm l k),.int .i64 (qn l k)] 134)).drew) from HB.out.trans (Below.mono ((ja wr _).trans (Kept.drewN _ 1)) hbase));have hk1:(k:Int)<(len:Int):=by omega
      have HFK:=lH (HF.out k HI.out);clear ho hB;go_wp2_with fail
      go_region_held3 (fun W=>W.cell? ⟨b,off+k*2,none⟩=some (.string (nm l k))∧W.cell? ⟨b,off+k*2+1,none⟩=some (.int .i64 (qn l k)))
       (first
         | go_keep
         | (go_split_ands
            refine⟨?_,?_⟩
            · (refine(hgrow.cell_far ⟨b,off+k*2,none⟩ (by simp;omega) (Ne.symm HNE.out)).trans ?_;assumption)
            · (refine(hgrow.cell_far ⟨b,off+k*2+1,none⟩ (by simp;omega) (Ne.symm HNE.out)).trans ?_;assumption)))
       ((refine step_append_lies _ (by rfl) _ _ _ (by rfl) w.heap.size 134 i0 _ 2 24 Tryz.underlying81 hi hz0 hz1 hz2 rfl (by decide) u3 k (cellsOf (l.take k)) (by rfl) ((HOWN.out.alloc _).drew)
          ⟨wr.heap.size,0,none⟩ 1 1 [.string (nm l k),.int .i64 (qn l k)] (by rfl) (by rfl) (World.news_of_block (cs:=#[.string (nm l k),.int .i64 (qn l k)]) (t:=134) (fr:=(0,0)) (heap_alloc_new wr _)) (Yq [(nm l k,qn l k)])
          (by decide) (by unfold maxLen;omega) (by omega) (by simp;omega) (wr.heap.size+1) (by simp) ?_;intro gg cap1 w1 hown1 hgrow hat hlt1))
      all_goals
       go_wp2;go_roundw
       case rel=>exact⟨k+1,by omega,by go_num,⟨by rw[jeR HI.out,ZV,List.length_append,HT.out];exact hown1,by rw[jeR HI.out];exact HO.out.2.snoc HFK.out.1 HFK.out.2.1 HFK.out.2.2⟩,HBD.out.grown hgrow HBASE.out (fun j hj=>(HOWN.out.lt j hj).1)⟩
       case measure=>simp[intOf];omega
    · have HK:=lH (show l.take k=l by rw[List.take_of_length_le (by rw[HL.out];omega)]);clear ho hB;go_wp2;go_ret;exact⟨_,rfl,by have h:=HO.out;rw[HK.out] at h;exact h,HB.out⟩
theorem jcK:∀s:List UInt8,Op.bytesLess s s=false
 | []=>rfl
 | a::s=>by
  have:¬a<a:=UInt8.lt_irrefl a;simp[Op.bytesLess,jcK s,this]
theorem jdm:∀{a b c:List UInt8},Op.bytesLess a b=true→Op.bytesLess b c=true→Op.bytesLess a c=true
 | _,_,[],_,h=>by simp[Op.bytesLess] at h
 | [],_,_::_,_,_=>by simp[Op.bytesLess]
 | x::a,[],z::c,h,_=>by simp[Op.bytesLess] at h
 | x::a,y::b,z::c,h,g=>by
  simp only[Op.bytesLess,Bool.or_eq_true,Bool.and_eq_true,decide_eq_true_eq,beq_iff_eq] at h g ⊢;rcases h with h | ⟨rfl,h⟩
  · rcases g with g | ⟨rfl,g⟩
    · exact .inl (UInt8.lt_trans h g)
    · exact .inl h
  · rcases g with g | ⟨rfl,g⟩
    · exact .inl g
    · exact .inr ⟨rfl,jdm h g⟩
theorem jfZ:∀{a b:List UInt8},Op.bytesLess a b=false→Op.bytesLess b a=false→a=b
 | [],[],_,_=>rfl
 | [],_::_,h,_=>by simp[Op.bytesLess] at h
 | _::_,[],_,h=>by simp[Op.bytesLess] at h
 | x::a,y::b,h,g=>by
  simp only[Op.bytesLess,Bool.or_eq_false_iff,decide_eq_false_iff_not,Bool.and_eq_false_iff,beq_eq_false_iff_ne] at h g;have e:x=y:=by
   have h1:=UInt8.not_lt.1 h.1;have h2:=UInt8.not_lt.1 g.1;exact UInt8.le_antisymm h2 h1
  subst e;have h2:=h.2.resolve_left (by simp);have g2:=g.2.resolve_left (by simp);rw[jfZ h2 g2]
theorem jiL (s t:ByteArray):ltS s t=Op.bytesLess s.data.toList t.data.toList:=by unfold ltS;rw[Lib.toList_data,Lib.toList_data]
theorem zt {s t:ByteArray}:eqS s t=true↔s=t:=by
 unfold eqS;rw[Lib.toList_data,Lib.toList_data,beq_iff_eq];exact⟨fun h=>Go.WideShapes.bytes_inj h,fun h=>by rw[h]⟩
theorem qb (s:ByteArray):ltS s s=false:=by rw[jiL];exact jcK _
theorem JZ {s t u:ByteArray} (h:ltS s t=true) (g:ltS t u=true):ltS s u=true:=by
 rw[jiL] at *;exact jdm h g
theorem jcb {s t:ByteArray} (h:ltS s t=false) (g:ltS t s=false):s=t:=by
 rw[jiL] at *;exact Go.WideShapes.bytes_inj (jfZ h g)
theorem Xr {s t:ByteArray} (h:ltS s t=true):s≠t:=by rintro rfl;rw[qb] at h;cases h
theorem je4 {s t:ByteArray} (h:ltS s t=true) (g:ltS t s=true):False:=Xr (JZ h g) rfl
def Gd (l:V):Prop:=(∀x ∈ l,isName x.1=true∧0<x.2∧x.2≤9223372036854775807)∧l.Pairwise (fun x y=>ltS x.1 y.1=true)
theorem Gd.nil:Gd []:=⟨fun x hx=>absurd hx (by simp),.nil⟩
theorem Gd.cons {x:ByteArray×Int} {t:V}:Gd (x::t)↔(isName x.1=true∧0<x.2∧x.2≤9223372036854775807)∧(∀y ∈ t,ltS x.1 y.1=true)∧Gd t:=by
 unfold Gd;rw[List.pairwise_cons,List.forall_mem_cons];constructor
 · rintro ⟨⟨a,b⟩,c,d⟩;exact⟨a,c,b,d⟩
 · rintro ⟨a,c,b,d⟩;exact⟨⟨a,b⟩,c,d⟩
theorem qy (x:ByteArray×Int) (t:V):jN (x::t) x.1=x.2:=by rw[jN,if_pos (zt.2 rfl)]
theorem Yx {x:ByteArray×Int} {n:ByteArray} (t:V) (h:x.1≠n):jN (x::t) n=jN t n:=by rw[jN,if_neg (fun e=>h (zt.1 e))]
theorem jf6:∀{l:V} {n:ByteArray},(∀y ∈ l,y.1≠n)→jN l n=0
 | [],_,_=>rfl
 | x::t,n,h=>by rw[Yx t (h x (by simp))];exact jf6 fun y hy=>h y (by simp[hy])
theorem get_mem:∀{l:V} {n:ByteArray},jN l n≠0→∃y ∈ l,y.1=n
 | [],_,h=>absurd rfl h
 | x::t,n,h=>by
  by_cases e:x.1=n
  · exact⟨x,by simp,e⟩
  · rw[Yx t e] at h;obtain⟨y,hy,hn⟩:=get_mem h;exact⟨y,by simp[hy],hn⟩
theorem jbw:∀{l:V} (n:ByteArray),Gd l→0≤jN l n∧jN l n≤9223372036854775807
 | [],_,_=>⟨Int.le_refl _,(by decide:(0:Int)≤9223372036854775807)⟩
 | x::t,n,h=>by
  have h':=Gd.cons.1 h;by_cases e:x.1=n
  · subst e;rw[qy];omega
  · rw[Yx t e];exact jbw n h'.2.2
theorem jkR:∀{l:V} {x:ByteArray×Int},Gd l→x ∈ l→jN l x.1=x.2
 | [],_,_,h=>absurd h (by simp)
 | y::t,x,h,hx=>by
  have h':=Gd.cons.1 h;rcases List.mem_cons.1 hx with rfl | hx
  · exact qy _ _
  · rw[Yx t (Xr (h'.2.1 x hx))];exact jkR h'.2.2 hx
theorem ji2 {l:V} {n:ByteArray} (h:∀y ∈ l,ltS n y.1=true):jN l n=0:=jf6 fun y hy=>(Xr (h y hy)).symm
theorem Gd.len:∀{b r:V},Gd r→Gd b→(∀n,jN r n≠0→jN b n≠0)→r.length≤b.length
 | [],[],_,_,_=>Nat.le_refl _
 | [],x::s,hr,_,h=>by
  have:=h x.1;rw[qy] at this;have h1:=(Gd.cons.1 hr).1;exact absurd rfl (this (by omega))
 | y::t,[],_,_,_=>Nat.zero_le _
 | y::t,x::s,hr,hb,h=>by
  have hr':=Gd.cons.1 hr;have hb':=Gd.cons.1 hb;have:s.length≤t.length:=Gd.len hr'.2.2 hb'.2.2 fun n hn=>by
   obtain⟨z,hz,rfl⟩:=get_mem hn;have hlt:=hr'.2.1 z hz;have hb2:=h z.1 (by rw[Yx s (Xr hlt)];exact hn);by_cases e:y.1=z.1
   · obtain⟨u,hu,hux⟩:=get_mem (h x.1 (by rw[qy];omega));rcases List.mem_cons.1 hu with rfl | hu
     · rw[←hux,e,qb] at hlt;cases hlt
     · have:=hb'.2.1 u hu;rw[hux,e] at this;exact(je4 hlt this).elim
   · rw[Yx t e] at hb2;exact hb2
  simp only[List.length_cons];omega
theorem qL {s t:ByteArray} (h:leS s t=false):ltS t s=true:=by
 unfold leS at h;rw[Bool.or_eq_false_iff] at h
 cases e:ltS t s with
 | true=>rfl
 | false=>rw[jcb h.1 e,zt.2 rfl] at h;cases h.2
theorem ql {l:V} (h:jm l=0) (hf:zp l):Gd l:=by
 have h2:jG none l=0:=by
  unfold jm at h;split at h
  · cases h
  · exact h
 have key:∀(l:V) (p:Option ByteArray),jG p l=0→zp l→Gd l∧(∀x,p=some x→∀y ∈ l,ltS x y.1=true):=by
  intro l
  induction l with
  | nil=>intro p _ _;exact⟨Gd.nil,fun _ _ y hy=>absurd hy (by simp)⟩
  | cons x t ih =>
   intro p hc hf;rw[zp.cons] at hf;unfold jG at hc;split at hc
   · cases hc
   · rename_i n1;split at hc
     · cases hc
     · rename_i n2;split at hc
       · cases hc
       · rename_i n3;obtain⟨hg,hall⟩:=ih _ hc hf.2;have hx:=hall x.1 rfl;refine⟨Gd.cons.2 ⟨⟨by simpa using n1,by omega,hf.1.2.2⟩,hx,hg⟩,?_⟩;rintro q rfl y hy;have hq:ltS q x.1=true:=qL (by simpa [jI] using n3);rcases List.mem_cons.1 hy with rfl | hy
         · exact hq
         · exact JZ hq (hx y hy)
 exact(key l none h2 hf).1
theorem jez {l:V} {s:ByteArray} (hg:Gd l) (h:∀y ∈ l,y.1=s∨ltS s y.1=true) :
 (jy l s).1=jN l s∧Gd (jy l s).2∧(∀y ∈ (jy l s).2,ltS s y.1=true)∧(∀n,n≠s→jN (jy l s).2 n=jN l n)∧(∀m,(∀y ∈ l,ltS m y.1=true)→∀y ∈ (jy l s).2,ltS m y.1=true):=by
 cases l with
 | nil=>exact⟨rfl,hg,fun y hy=>absurd hy (by simp[jy]),fun _ _=>rfl,fun _ _ y hy=>absurd hy (by simp[jy])⟩
 | cons x t =>
  have hg':=Gd.cons.1 hg;rw[Jb];by_cases e:x.1=s
  · rw[if_pos (zt.2 e)];subst e;exact⟨(qy x t).symm,hg'.2.2,hg'.2.1,fun n hn=>(Yx t (Ne.symm hn)).symm,fun m hm y hy=>hm y (by simp[hy])⟩
  · rw[if_neg (fun c=>e (zt.1 c))];have hx:ltS s x.1=true:=(h x (by simp)).resolve_left e;have hall:∀y ∈ x::t,ltS s y.1=true:=fun y hy=>by
     rcases List.mem_cons.1 hy with rfl | hy
     · exact hx
     · exact JZ hx (hg'.2.1 y hy)
    exact⟨(ji2 hall).symm,hg,hall,fun _ _=>rfl,fun m hm=>hm⟩
theorem je6 {la lb:V} (ha:Gd la) (hb:Gd lb) (h:0<la.length+lb.length) :
 isName (jl la lb)=true∧(∀y ∈ la,y.1=jl la lb∨ltS (jl la lb) y.1=true)∧(∀y ∈ lb,y.1=jl la lb∨ltS (jl la lb) y.1=true) ∧
  (∀m,(∀y ∈ la,ltS m y.1=true)→(∀y ∈ lb,ltS m y.1=true)→ltS m (jl la lb)=true):=by
 have own:∀{x:ByteArray×Int} {t:V},Gd (x::t)→∀y ∈ x::t,y.1=x.1∨ltS x.1 y.1=true:=fun {x t} hg y hy=>by
  rcases List.mem_cons.1 hy with rfl | hy
  · exact .inl rfl
  · exact .inr ((Gd.cons.1 hg).2.1 y hy)
 cases la with
 | nil =>
  cases lb with
  | nil=>simp at h
  | cons y t=>exact⟨(Gd.cons.1 hb).1.1,fun z hz=>absurd hz (by simp),own hb,fun m _ hm=>hm y (by simp)⟩
 | cons x s =>
  cases lb with
  | nil=>exact⟨(Gd.cons.1 ha).1.1,own ha,fun z hz=>absurd hz (by simp),fun m hm _=>hm x (by simp)⟩
  | cons y t =>
   rw[ZA];by_cases e:ltS y.1 x.1=true
   · rw[if_pos e];refine⟨(Gd.cons.1 hb).1.1,fun z hz=>.inr ?_,own hb,fun m _ hm=>hm y (by simp)⟩;rcases own ha z hz with hz | hz
     · rw[hz];exact e
     · exact JZ e hz
   · rw[if_neg e];refine⟨(Gd.cons.1 ha).1.1,own ha,fun z hz=>?_,fun m hm _=>hm x (by simp)⟩;have e':ltS y.1 x.1=false:=by simpa using e
     have hxy:y.1=x.1∨ltS x.1 y.1=true:=by
      cases e2:ltS x.1 y.1 with
      | true=>exact .inr rfl
      | false=>exact .inl (jcb e' e2)
     rcases own hb z hz with hz | hz
     · rw[hz];exact hxy
     · rcases hxy with hxy | hxy
       · rw[←hxy];exact .inr hz
       · exact .inr (JZ hxy hz)
theorem Reads.fine {v:Value} {l:V} {w:World} (h:Reads w v l):zp l:=by
 obtain⟨a,cap,rfl,h1,h2,h3⟩:=h;exact h3.2.2.1
open Go.ChangeShapes Go.WideShapes Go.ChangeAt Go.RowKit Go.Deep
theorem jkN:Tryz.prog.cellsOf 140=2:=by kernel_rfl
theorem jlj:Tryz.prog.cellsOf 363=1:=by kernel_rfl
theorem ZL:Tryz.prog.cellsOf 9=1:=by kernel_rfl
theorem jan:Tryz.prog.cellsOf 2=1:=by kernel_rfl
theorem jep {H:Type} {enc:TypeId×Value→H} {w:World} {base fuel:Nat} {sp:Nat→Bool} {held:Bool} {cs:List Value} {x:DataW H×List MemPlace} (h:DataW.trod enc Tryz.prog w base sp held fuel 140 cs=some x) :
 ∃(s:ByteArray) (n:Int),cs=[.string s,.int .i64 n]∧s.size≤maxLen∧-9223372036854775808≤n∧n≤9223372036854775807:=by
 obtain⟨ys,m,-,-,hlen,hyl,hf⟩:=DataW.trod_struct Tryz.underlying140 h;rw[jkN] at hlen
 match cs,hlen with
 | [c0,c1],_ =>
  have h0:DataW.trod enc Tryz.prog w base sp held m 9 (([c0,c1].drop 0).take (Tryz.prog.cellsOf 9))=ys[0]?:=hf 0 _ rfl;have h1:DataW.trod enc Tryz.prog w base sp held m 2 (([c0,c1].drop 1).take (Tryz.prog.cellsOf 2))=ys[1]?:=hf 1 _ rfl;rw[ZL] at h0;rw[jan] at h1;obtain⟨y0,e0⟩:∃y,ys[0]?=some y:=⟨_,List.getElem?_eq_getElem (by rw[hyl];decide)⟩
  obtain⟨y1,e1⟩:∃y,ys[1]?=some y:=⟨_,List.getElem?_eq_getElem (by rw[hyl];decide)⟩
  rw[e0] at h0;rw[e1] at h1;obtain⟨s,q0,-,hs⟩:=DataW.trod_string Tryz.underlying9 h0;obtain⟨n,q1,-,hn⟩:=DataW.trod_int Tryz.underlying2 h1;simp only[List.drop_zero,List.take_succ_cons,List.take_zero,List.cons.injEq,and_true,List.drop_succ_cons] at q0 q1;subst q0;subst q1;have:=bounds_i64 hn;exact⟨s,n,rfl,hs,this.1,this.2⟩
theorem jid {l m:V} {i:Nat} (h:i<l.length):nm (l++m) i=nm l i∧qn (l++m) i=qn l i:=by
 unfold nm qn;simp[List.getD,List.getElem?_append_left h]
theorem jik (l:V) (s:ByteArray) (n:Int):nm (l++[(s,n)]) l.length=s∧qn (l++[(s,n)]) l.length=n:=by
 unfold nm qn;simp[List.getD]
theorem zX {H:Type} {enc:TypeId×Value→H} {w:World} {base fuel:Nat} {sp:Nat→Bool} {held:Bool} {v:Value} {x:DataW H×List MemPlace} (h:DataW.trod enc Tryz.prog w base sp held fuel 37 [v]=some x) :
 ∃l,Reads w v l:=by
 rcases open_slice Tryz.underlying37 h with ⟨hcs,-⟩ | ⟨a,len,cap,m,n,D,Pl,hcs,hb,hl,hm,hmm,hx,hi⟩
 · cases hcs;exact⟨[],Reads.nil w⟩
 · cases hcs
   have hlm:len≤m:=by rw[hmm];split<;>omega
   have key:∀k,k≤len→∃l:V,l.length=k∧∀i,i<k→((nm l i).size≤maxLen∧-9223372036854775808≤qn l i∧qn l i≤9223372036854775807) ∧
    w.cell? ((a.add (i*2)).add 0)=some (.string (nm l i))∧w.cell? ((a.add (i*2)).add 1)=some (.int .i64 (qn l i)):=by
    intro k
    induction k with
    | zero=>exact fun _=>⟨[],rfl,fun i hi=>absurd hi (by omega)⟩
    | succ k ih =>
     intro hk;obtain⟨l,e,hall⟩:=ih (by omega);obtain⟨cs',hc,ht'⟩:=hi k (by omega);obtain⟨s,q,rfl,b1,b2,b3⟩:=jep ht';rw[jkN] at hc;obtain⟨-,-,hat⟩:=World.cells?_some hc;refine⟨l++[(s,q)],by simp[e],fun i hi=>?_⟩;by_cases e2:i=k
     · subst e2;subst e;rw[(jik l s q).1,(jik l s q).2];exact⟨⟨b1,b2,b3⟩,hat 0 (by decide),hat 1 (by decide)⟩
     · rw[(jid (by omega)).1,(jid (by omega)).2];exact hall i (by omega)
   obtain⟨l,e,hall⟩:=key len (Nat.le_refl _);subst e;refine⟨l,_,cap,rfl,hl,hm,rfl,Nat.le_trans hl hm,fun i hi=>(hall i hi).1,?_⟩;by_cases h0:l.length=0
   · exact .inl h0
   · obtain⟨b,off,spot⟩:=a;have hc:=(hall 0 (by omega)).2.1;have hspot:spot=none:=by simpa [Addr.add] using World.cell?_spot hc
     subst hspot;have hcell:∀i,i<l.length→w.cell? ⟨b,off+i*2,none⟩=some (.string (nm l i))∧w.cell? ⟨b,off+i*2+1,none⟩=some (.int .i64 (qn l i)):=fun i hi=>by
      have c:=(hall i hi).2;by_cases hi0:i=0
      · subst hi0;simpa [Addr.add] using c
      · have h2:¬i*2=0:=by omega
        simpa [Addr.add,h2] using c
     exact .inr ⟨b,off,rfl,World.block_lt_of_cell? _ _ (hcell 0 (by omega)).1,hcell⟩
theorem star : "*" ++ "errors.errorString" = "*errors.errorString":=by decide
theorem jgb (u:TypeId) (h:Tryz.prog.typeName? 3 u=some "*errors.errorString"):u=361 :=
 typeName_ptr_named (nm := "errors.errorString") (by rw[star];kernel_rfl) (by kernel_rfl) (by decide) u (by rw[star];exact h)
theorem jlT:(Rows.laid_internal_strconv_uint64pow10:DataW Unit)=Lib.tabData .u64 Lib.pow10Tab:=by kernel_rfl
theorem jeT:Tryz.prog.globalNamed "strconv.ErrRange"=some 5:=by kernel_rfl
theorem jjM {W:World} (hL:laidMetH Tryz.prog Rows.textTwiceRow.laid W) (hS:W.ShapedOpen Tryz.prog):EnvT W:=by
 rw[MakeChecks.laidMetH_plain _ _ _ (by kernel_rfl)] at hL;have h3:laidMet Tryz.prog (("internal/strconv.uint64pow10",Rows.laid_internal_strconv_uint64pow10)::_) W:=hL.tail.tail;rw[jlT] at h3;refine⟨⟨?_,?_⟩,?_⟩
 · exact cell_of_shapedOpen_int (zero:=#[.int .i64 0]) (t:=3) hS (of_decide_eq_true (by kernel_rfl)) (by kernel_rfl) rfl (by kernel_rfl) (by kernel_rfl) Tryz.underlying3
 · have h5:laidMet Tryz.prog (("strconv.ErrRange",Rows.laid_strconv_ErrRange)::_) W:=hL.tail.tail.tail.tail;unfold Rows.laid_strconv_ErrRange at h5;obtain⟨a,s,hv,-⟩:=laid_sentinel h5 jeT (by kernel_rfl) Tryz.underlying100 jgb Tryz.underlying361 Tryz.underlying363 rfl rfl Tryz.underlying9 jlj ZL;exact⟨_,by simpa using World.var?_cell jeT hv 0,.inr ⟨_,_,rfl⟩⟩
 · exact Lib.tabIs_of_head jip (by kernel_rfl) Tryz.underlying273 Tryz.underlying228 (by kernel_rfl) (by kernel_rfl) h3
end Go.Proofs.YthmddloeggdohaaGreatDoor.Vec
namespace Go.Proofs.YthmddloeggdohaaGreatDoor
open Go.RowKit
abbrev PL:=List (ByteArray×ByteArray)
abbrev TL:=List (Int×ByteArray×ByteArray)
def jI (prev:Option ByteArray) (s:ByteArray):Bool:=match prev with | none=>false | some p=>leS s p
def Y0 (l:PL) (k:Nat):Option ByteArray:=if k=0 then none else (l[k-1]?).map (·.1)
def zI:Option ByteArray→PL→Int
 | _,[]=>0
 | prev,x::t=>if (isName x.1&&isName x.2)=false then 3 else if jI prev x.1=true then 13 else zI (some x.1) t
def zE (l:PL):Int:=if 8<l.length then 4 else zI none l
theorem YT {l:PL} {k:Nat} (h:k=0) (s:ByteArray):jI (Y0 l k) s=false:=by unfold Y0;rw[if_pos h];rfl
theorem YU {l:PL} {k:Nat} {x y:ByteArray} (h:¬k=0) (hx:l[k-1]?=some (x,y)) (s:ByteArray):jI (Y0 l k) s=leS s x:=by unfold Y0;rw[if_neg h,hx];rfl
theorem Xi {l:PL} {k:Nat} {x y:ByteArray} (hx:l[k]?=some (x,y)):Y0 l (k+1)=some x:=by unfold Y0;rw[if_neg (by omega),Nat.add_sub_cancel,hx];rfl
theorem Y2 {p:Option ByteArray} {x y:ByteArray} {t:PL} (n:(isName x&&isName y)=false):zI p ((x,y)::t)=3:=by rw[zI,if_pos n]
theorem XZ {p:Option ByteArray} {x y:ByteArray} {t:PL} (n1:isName x=true) (n2:isName y=true) (b:jI p x=true):zI p ((x,y)::t)=13:=by
 rw[zI,if_neg (by dsimp only;rw[n1,n2];decide),if_pos b]
theorem Yh {p:Option ByteArray} {x y:ByteArray} {t:PL} (n1:isName x=true) (n2:isName y=true) (b:jI p x=false):zI p ((x,y)::t)=zI (some x) t:=by
 rw[zI,if_neg (by dsimp only;rw[n1,n2];decide),if_neg (by dsimp only;rw[b];decide)]
theorem qV (a:Option Addr) (len cap:Nat) (l:PL) (w:World) (hr:jr js w a len l) :
 Calls Tryz.prog 213 #[.slice a len cap] w fun e w'=>e=.returned (.int .i64 (zE l))∧Kept w w':=by
 have hl:=hr.1;have hm:=hr.2.1;unfold maxLen at hm;by_cases h8:len≤8
 · have HV:=lH (show zE l=zI none l by unfold zE;rw[if_neg (by omega)]);rcases hr.form with h0 | ⟨b,off,rfl⟩
   · subst h0;have HE:=lH (show zE l=0 by rw[HV.out];rw[List.eq_nil_of_length_eq_zero hl];rfl);clear hr hl;go_enter Tryz.func213,Tryz.ntmps213;go_wp2;refine wp_loop_rounds 1 ?_;rw[rounds_succ];go_wp2;go_ret;exact⟨jb HE.out.symm,Kept.refl _⟩
   · have HR:=lH hr;have HL:=lH hl;clear hr hl;go_enter Tryz.func213,Tryz.ntmps213;go_wp2;go_loopw [10] (fun i wr=>∃k:Nat,k≤len∧i=.int .i64 k∧zI (Y0 l k) (l.drop k)=zI none l∧Kept w wr) (fun i _=>len-(intOf i).toNat)
     case atStart=>exact⟨0,Nat.zero_le _,rfl,rfl,Kept.refl _⟩
     case round =>
      obtain⟨k,hk,rfl,hrest,hK⟩:=hrel;by_cases hlt:k<len
      · obtain⟨x,y,hx,hd,hb,hz,hz2,c1,c2⟩:=(HR.out.kept hK).pair hlt;have HX:=lH hx;have HK:=lH hK;have HT:=lH (hrest.symm.trans (congrArg (zI (Y0 l k)) hd));have HS:=lH (HV.out.trans HT.out);clear hK hrest hx hd;by_cases n1:isName x=true
        · by_cases n2:isName y=true
          · have N1:=lH n1;have N2:=lH n2;by_cases h0:k=0
            · have hd:decide (0<k)=false:=by subst h0;decide
              have HP:=lH (YT (l:=l) h0 x);clear h0;go_wp2_with (go_at_call 219;refine(zk _ _ (by assumption)).mono ?_;rintro e w' ⟨rfl,rfl⟩)
              go_quiet (fail)
              go_wp2;go_roundw
              case rel=>exact⟨k+1,by omega,by go_num,by rw[Xi HX.out];exact(Yh N1.out N2.out HP.out).symm.trans HT.out.symm,(HK.out.trans (Zb _ _ _))⟩
              case measure=>simp[intOf];omega
            · have hd:decide (0<k)=true:=by simp;omega
              have g1:0≤(k:Int)-1:=by omega
              have g2:(k:Int)-1<(len:Int):=by omega
              have g3:((k:Int)-1).toNat=k-1:=by omega
              obtain⟨px,py,hpx,_,_,_,_,d1,d2⟩:=(HR.out.kept HK.out).pair (show k-1<len by omega);have HP:=lH (YU (l:=l) h0 hpx x);clear hpx;by_cases n3:leS x px=true
              · have n3':(Op.bytesLess x.toList px.toList||x.toList==px.toList)=true:=n3;have N3:=lH n3;clear n3;go_wp2_with (go_at_call 219;refine(zk _ _ (by assumption)).mono ?_;rintro e w' ⟨rfl,rfl⟩)
                go_quiet (fail)
                go_wp2;go_ret;exact⟨jb (HS.out.trans (XZ N1.out N2.out (HP.out.trans N3.out))).symm,(HK.out.trans (Zb _ _ _))⟩
              · have n3:leS x px=false:=by simpa using n3
                have n3':(Op.bytesLess x.toList px.toList||x.toList==px.toList)=false:=n3;have N3:=lH n3;clear n3;go_wp2_with (go_at_call 219;refine(zk _ _ (by assumption)).mono ?_;rintro e w' ⟨rfl,rfl⟩)
                go_quiet (fail)
                go_wp2;go_roundw
                case rel=>exact⟨k+1,by omega,by go_num,by rw[Xi HX.out];exact(Yh N1.out N2.out (HP.out.trans N3.out)).symm.trans HT.out.symm,(HK.out.trans (Zb _ _ _))⟩
                case measure=>simp[intOf];omega
          · have n2:isName y=false:=by simpa using n2
            have N:=lH (show (isName x&&isName y)=false by rw[n2,Bool.and_false]);go_wp2_with (go_at_call 219;refine(zk _ _ (by assumption)).mono ?_;rintro e w' ⟨rfl,rfl⟩)
            go_ret;exact⟨jb (HS.out.trans (Y2 N.out)).symm,HK.out.trans (ja _ _)⟩
        · have n1:isName x=false:=by simpa using n1
          have N:=lH (show (isName x&&isName y)=false by rw[n1,Bool.false_and]);go_wp2_with (go_at_call 219;refine(zk x _ hz).mono ?_;rintro e w' ⟨rfl,rfl⟩)
          go_ret;exact⟨jb (HS.out.trans (Y2 N.out)).symm,HK.out.trans (ja _ _)⟩
      · have HK:=lH hK;have HS:=lH ((HV.out.trans hrest.symm).trans (congrArg (zI (Y0 l k)) (JS (by rw[HL.out];exact hlt))));clear hK hrest;go_wp2;go_ret;exact⟨jb (HS.out.trans rfl).symm,HK.out⟩
 · have HV:=lH (show zE l=4 by unfold zE;rw[if_pos (by omega)]);have h9:8<len:=by omega
   clear h8 hr hl;go_enter Tryz.func213,Tryz.ntmps213;go_wp2;go_ret;exact⟨jb HV.out.symm,Kept.refl _⟩
abbrev TV (o:Int) (x y:ByteArray):Value:=.agg #[.int .i64 o,.string x,.string y]
def Ja (t:Int×ByteArray×ByteArray):Int :=
 if t.1=1∨t.1=2 then (if (isName t.2.1&&isName t.2.2)=true then 0 else 3)
 else if t.1=3∨t.1=4 then (if (isName t.2.1&&eqS t.2.2 ByteArray.empty)=true then 0 else 3)
 else 1
def JG:TL→Int
 | []=>0
 | t::r=>if Ja t≠0 then Ja t else JG r
def zb (l:TL):Int:=if 8<l.length then 4 else JG l
theorem jku (w:World):Calls Tryz.prog 295 #[.bool true] w fun e w'=>e=.returned (.int .i64 0)∧w=w':=by
 go_enter Tryz.func295,Tryz.ntmps295;go_wp2;go_ret;exact⟨rfl,rfl⟩
theorem jcd (w:World):Calls Tryz.prog 295 #[.bool false] w fun e w'=>e=.returned (.int .i64 3)∧w=w':=by
 go_enter Tryz.func295,Tryz.ntmps295;go_wp2;go_ret;exact⟨rfl,rfl⟩
theorem Za {o:Int} {x y:ByteArray}:Ja (o,x,y)=if o=1∨o=2 then (if (isName x&&isName y)=true then 0 else 3)
 else if o=3∨o=4 then (if (isName x&&eqS y ByteArray.empty)=true then 0 else 3) else 1:=rfl
theorem jiZ (o:Int) (x y:ByteArray) (w:World) (ho:o=1∨o=2) (hx:x.size≤maxLen) (hy:y.size≤maxLen) :
 Calls Tryz.prog 269 #[TV o x y] w fun e w'=>e=.returned (.int .i64 (Ja (o,x,y)))∧Kept w w':=by
 by_cases n:(isName x&&isName y)=true
 · have HV:=lH (show Ja (o,x,y)=0 by rw[Za,if_pos ho,if_pos n]);have n1:isName x=true:=by rw[Bool.and_eq_true] at n;exact n.1
   have n2:isName y=true:=by rw[Bool.and_eq_true] at n;exact n.2
   clear n;rcases ho with rfl | rfl <;>
    (go_enter Tryz.func269,Tryz.ntmps269
     go_wp2_with (first | (go_at_call 219;refine(zk _ _ (by assumption)).mono ?_;rintro e w' ⟨rfl,rfl⟩) | (go_at_call 295;refine(jku _).mono ?_;rintro e w' ⟨rfl,rfl⟩))
     go_ret;exact⟨jb HV.out.symm,ja _ _⟩)
 · have HV:=lH (show Ja (o,x,y)=3 by rw[Za,if_pos ho,if_neg n]);by_cases n1:isName x=true
   · have n2:isName y=false:=by rw[n1,Bool.true_and] at n;simpa using n
     clear n;rcases ho with rfl | rfl <;>
      (go_enter Tryz.func269,Tryz.ntmps269
       go_wp2_with (first | (go_at_call 219;refine(zk _ _ (by assumption)).mono ?_;rintro e w' ⟨rfl,rfl⟩) | (go_at_call 295;refine(jcd _).mono ?_;rintro e w' ⟨rfl,rfl⟩))
       go_ret;exact⟨jb HV.out.symm,ja _ _⟩)
   · have n1:isName x=false:=by simpa using n1
     clear n;rcases ho with rfl | rfl <;>
      (go_enter Tryz.func269,Tryz.ntmps269
       go_wp2_with (first | (go_at_call 219;refine(zk _ _ (by assumption)).mono ?_;rintro e w' ⟨rfl,rfl⟩) | (go_at_call 295;refine(jcd _).mono ?_;rintro e w' ⟨rfl,rfl⟩))
       go_ret;exact⟨jb HV.out.symm,ja _ _⟩)
theorem jlV (o:Int) (x y:ByteArray) (w:World) (ho:o=3∨o=4) (hx:x.size≤maxLen) (hy:y.size≤maxLen) :
 Calls Tryz.prog 269 #[TV o x y] w fun e w'=>e=.returned (.int .i64 (Ja (o,x,y)))∧Kept w w':=by
 have ho':¬(o=1∨o=2):=by omega
 by_cases n:(isName x&&eqS y ByteArray.empty)=true
 · have HV:=lH (show Ja (o,x,y)=0 by rw[Za,if_neg ho',if_pos ho,if_pos n]);have n1:isName x=true:=by rw[Bool.and_eq_true] at n;exact n.1
   have n2:(y.toList==([]:List UInt8))=true:=by rw[Bool.and_eq_true] at n;have:=n.2;unfold eqS at this;simpa using this
   clear n ho';rcases ho with rfl | rfl <;>
    (go_enter Tryz.func269,Tryz.ntmps269
     go_wp2_with (first | (go_at_call 219;refine(zk _ _ (by assumption)).mono ?_;rintro e w' ⟨rfl,rfl⟩) | (go_at_call 295;refine(jku _).mono ?_;rintro e w' ⟨rfl,rfl⟩))
     go_ret;exact⟨jb HV.out.symm,ja _ _⟩)
 · have HV:=lH (show Ja (o,x,y)=3 by rw[Za,if_neg ho',if_pos ho,if_neg n]);clear ho';by_cases n1:isName x=true
   · have n2:(y.toList==([]:List UInt8))=false:=by rw[n1,Bool.true_and] at n;unfold eqS at n;simpa using n
     clear n;rcases ho with rfl | rfl <;>
      (go_enter Tryz.func269,Tryz.ntmps269
       go_wp2_with (first | (go_at_call 219;refine(zk _ _ (by assumption)).mono ?_;rintro e w' ⟨rfl,rfl⟩) | (go_at_call 295;refine(jcd _).mono ?_;rintro e w' ⟨rfl,rfl⟩))
       go_ret;exact⟨jb HV.out.symm,ja _ _⟩)
   · have n1:isName x=false:=by simpa using n1
     clear n;rcases ho with rfl | rfl <;>
      (go_enter Tryz.func269,Tryz.ntmps269
       go_wp2_with (first | (go_at_call 219;refine(zk _ _ (by assumption)).mono ?_;rintro e w' ⟨rfl,rfl⟩) | (go_at_call 295;refine(jcd _).mono ?_;rintro e w' ⟨rfl,rfl⟩))
       go_ret;exact⟨jb HV.out.symm,ja _ _⟩)
theorem jiT (o:Int) (x y:ByteArray) (w:World) (ho:¬(o=1∨o=2)) (ho':¬(o=3∨o=4)) :
 Calls Tryz.prog 269 #[TV o x y] w fun e w'=>e=.returned (.int .i64 (Ja (o,x,y)))∧Kept w w':=by
 have HV:=lH (show Ja (o,x,y)=1 by rw[Za,if_neg ho,if_neg ho']);have e1:(o==1)=false:=by (have:o≠1:=by omega);simpa using this
 have e2:(o==2)=false:=by (have:o≠2:=by omega);simpa using this
 have e3:(o==3)=false:=by (have:o≠3:=by omega);simpa using this
 have e4:(o==4)=false:=by (have:o≠4:=by omega);simpa using this
 clear ho ho';go_enter Tryz.func269,Tryz.ntmps269;go_wp2;go_ret;exact⟨jb HV.out.symm,ja _ _⟩
theorem ja9 (o:Int) (x y:ByteArray) (w:World) (hx:x.size≤maxLen) (hy:y.size≤maxLen) :
 Calls Tryz.prog 269 #[TV o x y] w fun e w'=>e=.returned (.int .i64 (Ja (o,x,y)))∧Kept w w':=by
 by_cases h1:o=1∨o=2
 · exact jiZ o x y w h1 hx hy
 · by_cases h2:o=3∨o=4
   · exact jlV o x y w h2 hx hy
   · exact jiT o x y w h1 h2
theorem jaE (t:Int×ByteArray×ByteArray) (r:TL):JG (t::r)=if Ja t≠0 then Ja t else JG r:=rfl
theorem jbn (a:Option Addr) (len cap:Nat) (l:TL) (w:World) (hr:jr jL w a len l) :
 Calls Tryz.prog 227 #[.slice a len cap] w fun e w'=>e=.returned (.int .i64 (zb l))∧Kept w w':=by
 have hl:=hr.1;have hm:=hr.2.1;unfold maxLen at hm;by_cases h8:len≤8
 · have HV:=lH (show zb l=JG l by unfold zb;rw[if_neg (by omega)]);rcases hr.form with h0 | ⟨b,off,rfl⟩
   · subst h0;have HE:=lH (show zb l=0 by rw[HV.out];rw[List.eq_nil_of_length_eq_zero hl];rfl);clear hr hl;go_enter Tryz.func227,Tryz.ntmps227;go_wp2;refine wp_loop_rounds 1 ?_;rw[rounds_succ];go_wp2;go_ret;exact⟨jb HE.out.symm,Kept.refl _⟩
   · have HR:=lH hr;have HL:=lH hl;clear hr hl;go_enter Tryz.func227,Tryz.ntmps227;go_wp2;go_loopw [11] (fun i wr=>∃k:Nat,k≤len∧i=.int .i64 k∧JG (l.drop k)=JG l∧Kept w wr) (fun i _=>len-(intOf i).toNat)
     case atStart=>exact⟨0,Nat.zero_le _,rfl,rfl,Kept.refl _⟩
     case round =>
      obtain⟨k,hk,rfl,hrest,hK⟩:=hrel;by_cases hlt:k<len
      · obtain⟨o,x,y,hx,hd,hb,ho,hz,hz2,c1,c2,c3⟩:=(HR.out.kept hK).term hlt;have HK:=lH hK;have HT:=lH (hrest.symm.trans ((congrArg JG hd).trans (jaE _ _)));have HS:=lH (HV.out.trans HT.out);clear hK hrest hx hd;by_cases n:Ja (o,x,y)=0
        · have N:=lH n;have n':(Ja (o,x,y) != 0)=false:=by simpa using n
          clear n;go_wp2_with (go_at_call 269;refine(ja9 o x y _ hz hz2).mono ?_;rintro e w1 ⟨rfl,k1⟩;have K1:=lH k1;clear k1)
          go_roundw
          case rel=>exact⟨k+1,by omega,by go_num,(HT.out.trans (if_neg (by rw[N.out];decide))).symm,HK.out.trans ((ja _ _).trans K1.out)⟩
          case measure=>simp[intOf];omega
        · have N:=lH n;have n':(Ja (o,x,y) != 0)=true:=by simpa using n
          clear n;go_wp2_with (go_at_call 269;refine(ja9 o x y _ hz hz2).mono ?_;rintro e w1 ⟨rfl,k1⟩;have K1:=lH k1;clear k1)
          go_ret;exact⟨jb (HS.out.trans (if_pos N.out)).symm,HK.out.trans ((ja _ _).trans K1.out)⟩
      · have HK:=lH hK;have HS:=lH ((HV.out.trans hrest.symm).trans (congrArg JG (JS (by rw[HL.out];exact hlt))));clear hK hrest;go_wp2;go_ret;exact⟨jb (HS.out.trans rfl).symm,HK.out⟩
 · have HV:=lH (show zb l=4 by unfold zb;rw[if_pos (by omega)]);have h9:8<len:=by omega
   clear h8 hr hl;go_enter Tryz.func227,Tryz.ntmps227;go_wp2;go_ret;exact⟨jb HV.out.symm,Kept.refl _⟩
abbrev NT:=ByteArray×ByteArray×Bool
abbrev NL:=List NT
abbrev NV (x y:ByteArray) (b:Bool):Value:=.agg #[.string x,.string y,.bool b]
theorem jap (x y:ByteArray) (b:Bool) (u:Value) (h:u ∈ [Value.string x,Value.string y,Value.bool b]):u.oneCell'=true:=by
 have e:u=Value.string x∨u=Value.string y∨u=Value.bool b:=by simpa using h
 rcases e with e | e | e<;>rw[e]<;>rfl
def jq:Lay NT:={ m:=3,cs:=fun x=>[.string x.1,.string x.2.1,.bool x.2.2],fine:=fun x=>x.1.size≤maxLen∧x.2.1.size≤maxLen,len:=fun _=>rfl,one:=fun x=>jap x.1 x.2.1 x.2.2,pos:=by decide }
theorem jr.tri {w:World} {b off len:Nat} {l:NL} {k:Nat} (h:jr jq w (some ⟨b,off,none⟩) len l) (hk:k<len) :
 ∃(x y:ByteArray) (m:Bool),l[k]?=some (x,y,m)∧l.drop k=(x,y,m)::l.drop (k+1)∧b<w.heap.size∧x.size≤maxLen∧y.size≤maxLen ∧
  w.cell? ⟨b,off+k*3,none⟩=some (.string x)∧w.cell? ⟨b,off+k*3+1,none⟩=some (.string y)∧w.cell? ⟨b,off+k*3+2,none⟩=some (.bool m):=by
 obtain⟨⟨x,y,m⟩,h1,h2,h3,h4,h5⟩:=h.cells hk;exact⟨x,y,m,h1,h2,h3,h4.1,h4.2,h5 0 _ rfl,h5 1 _ rfl,h5 2 _ rfl⟩
def Jw (t z:NT):Bool:=eqS z.1 t.1&&eqS z.2.1 t.2.1
def JF:NL→NL→Int
 | _,[]=>0
 | pre,x::t=>if (isName x.1&&isName x.2.1)=false then 3 else if pre.any (Jw x)=true then 6 else JF (pre++[x]) t
def Jg (l:NL):Int:=if 8<l.length then 4 else JF [] l
theorem qK {pre:NL} {x:NT} {t:NL} (n:(isName x.1&&isName x.2.1)=false):JF pre (x::t)=3:=by rw[JF,if_pos n]
theorem jdp {pre:NL} {x:NT} {t:NL} (n1:isName x.1=true) (n2:isName x.2.1=true) (b:pre.any (Jw x)=true):JF pre (x::t)=6:=by
 rw[JF,if_neg (by rw[n1,n2];decide),if_pos b]
theorem jeA {pre:NL} {x:NT} {t:NL} (n1:isName x.1=true) (n2:isName x.2.1=true) (b:pre.any (Jw x)=false):JF pre (x::t)=JF (pre++[x]) t:=by
 rw[JF,if_neg (by rw[n1,n2];decide),if_neg (by rw[b];decide)]
def Zj (s:ByteArray):Bool:=eqS s ByteArray.empty
def zm (x:NT):Bool:=(Zj x.1||isName x.1)&&(if x.2.2=true then Zj x.2.1 else isName x.2.1)
def zw (l:NL):Int:=if 8<l.length then 4 else if l.all zm=true then 0 else 3
theorem ZY {s:ByteArray}:Zj s=(s.toList==([]:List UInt8)):=by
 unfold Zj eqS;rw[show ByteArray.empty.toList=([]:List UInt8) from by rw[Lib.toList_data];rfl]
theorem YF (v:Value) (w:World):Calls Tryz.prog 161 #[v,.int .i64 0] w fun e w'=>e=.returned v∧w=w':=by
 go_enter Tryz.func161,Tryz.ntmps161;go_wp2;go_ret;exact⟨rfl,rfl⟩
theorem jd4 (v:Value) (x:Int) (w:World) (h:x≠0):Calls Tryz.prog 161 #[v,.int .i64 x] w fun e w'=>e=.panicked [ju x]∧w=w':=by
 have h3:(x != 0)=true:=by simpa using h
 clear h;go_enter Tryz.func161,Tryz.ntmps161;go_wp2;exact⟨rfl,rfl,rfl⟩
theorem Z8 (v:Value) (w:World):Calls Tryz.prog 163 #[v,.int .i64 0] w fun e w'=>e=.returned v∧w=w':=by
 go_enter Tryz.func163,Tryz.ntmps163;go_wp2;go_ret;exact⟨rfl,rfl⟩
theorem jjl (v:Value) (x:Int) (w:World) (h:x≠0):Calls Tryz.prog 163 #[v,.int .i64 x] w fun e w'=>e=.panicked [ju x]∧w=w':=by
 have h3:(x != 0)=true:=by simpa using h
 clear h;go_enter Tryz.func163,Tryz.ntmps163;go_wp2;exact⟨rfl,rfl,rfl⟩
theorem jbC (v:Value) (w:World):Calls Tryz.prog 176 #[v,.int .i64 0] w fun e w'=>e=.returned v∧w=w':=by
 go_enter Tryz.func176,Tryz.ntmps176;go_wp2;go_ret;exact⟨rfl,rfl⟩
theorem jjq (v:Value) (x:Int) (w:World) (h:x≠0):Calls Tryz.prog 176 #[v,.int .i64 x] w fun e w'=>e=.panicked [ju x]∧w=w':=by
 have h3:(x != 0)=true:=by simpa using h
 clear h;go_enter Tryz.func176,Tryz.ntmps176;go_wp2;exact⟨rfl,rfl,rfl⟩
theorem ZI (v:Value) (w:World):Calls Tryz.prog 165 #[v,.int .i64 0] w fun e w'=>e=.returned v∧w=w':=by
 go_enter Tryz.func165,Tryz.ntmps165;go_wp2;go_ret;exact⟨rfl,rfl⟩
theorem jjc (v:Value) (x:Int) (w:World) (h:x≠0):Calls Tryz.prog 165 #[v,.int .i64 x] w fun e w'=>e=.panicked [ju x]∧w=w':=by
 have h3:(x != 0)=true:=by simpa using h
 clear h;go_enter Tryz.func165,Tryz.ntmps165;go_wp2;exact⟨rfl,rfl,rfl⟩
theorem jeL (v:Value) (w:World):Calls Tryz.prog 178 #[v,.int .i64 0] w fun e w'=>e=.returned v∧w=w':=by
 go_enter Tryz.func178,Tryz.ntmps178;go_wp2;go_ret;exact⟨rfl,rfl⟩
theorem ji1 (v:Value) (x:Int) (w:World) (h:x≠0):Calls Tryz.prog 178 #[v,.int .i64 x] w fun e w'=>e=.panicked [ju x]∧w=w':=by
 have h3:(x != 0)=true:=by simpa using h
 clear h;go_enter Tryz.func178,Tryz.ntmps178;go_wp2;exact⟨rfl,rfl,rfl⟩
theorem J6 (c:UInt8) (p:List UInt8) (w:World) :
 Calls Tryz.prog 260 #[.string (bytes p),.string ⟨#[c]⟩] w fun e w'=>e=.returned (.int .i64 (Lib.countByte p c))∧w'=w:=Tryz.strings_Count_one (bytes p) c w
theorem jbg (c:UInt8) (p:List UInt8) (w:World) :
 Calls Tryz.prog 258 #[.string (bytes p),.string ⟨#[c]⟩] w fun e w'=>e=.returned (.bool (decide (0≤Lib.indexByte p c)))∧w'=w:=Tryz.strings_Contains_one (bytes p) c w
theorem ja8 (p q:List UInt8) (w:World) :
 Calls Tryz.prog 268 #[.string (bytes p),.string (bytes q)] w fun e w'=>e=.returned (.tuple #[.string (bytes (Lib.trimPrefix p q)),.bool (Lib.hasPrefix p q)])∧w'=w:=Tryz.strings_CutPrefix (bytes p) (bytes q) w
def JH (p:List UInt8):ByteArray×ByteArray:=(bytes (Lib.cut p [58]).1,bytes (Lib.cut p [58]).2.1)
def ZB (p:List UInt8):Bool:=!(Lib.cut p [58]).2.2||decide (0≤Lib.indexByte (Lib.cut p [58]).2.1 58)
theorem jns (p:List UInt8) (w:World) (hE:Env w) (hp:p.length≤1000000) (h:ZB p=false) :
 Calls Tryz.prog 212 #[.string (bytes p)] w fun e w'=>e=.returned (.agg #[.string (JH p).1,.string (JH p).2])∧Kept w w':=by
 have HE:=lH hE;unfold ZB at h;rw[Bool.or_eq_false_iff] at h;have h1:(Lib.cut p [58]).2.2=true:=by simpa using h.1
 have h2:=h.2;clear hE h;obtain⟨a,ha⟩:∃a,(Lib.cut p [58]).1=a:=⟨_,rfl⟩
 obtain⟨b,hb⟩:∃b,(Lib.cut p [58]).2.1=b:=⟨_,rfl⟩
 have HV:=lH (show (JH p).1=bytes a∧(JH p).2=bytes b by unfold JH;rw[ha,hb];exact⟨rfl,rfl⟩);rw[hb] at h2;have HC:=lH (fun W (hW:Env W)=>JC 58 p W hW hp);rw[h1,ha,hb] at HC;clear ha hb h1;rw[HV.out.1,HV.out.2];go_enter Tryz.func212,Tryz.ntmps212;go_wp2_with (first | (go_at_call 82;refine(HC.out _ (HE.out.kept (ja _ _))).mono ?_;rintro e w' ⟨rfl,n,rfl⟩) | (go_at_call 258;refine(jbg 58 b _).mono ?_;rintro e w' ⟨rfl,rfl⟩))
 (try simp only[Exit.inBlock,Exit.then])
 refine bodyPost_ret (v:=.agg #[.string (bytes a),.string (bytes b)]) (by simp[results,Tryz.results212,go_sem]) rfl ?_;exact⟨rfl,zH (zH ((ja _ _).trans (Kept.drewN _ _)) (Nat.le_refl _) _) (Nat.le_refl _) _⟩
theorem jmb (p:List UInt8) (w:World) (hE:Env w) (hp:p.length≤1000000) (h:ZB p=true) :
 Calls Tryz.prog 212 #[.string (bytes p)] w fun e w'=>e=.panicked [ju 2]∧Kept w w':=by
 have HE:=lH hE;unfold ZB at h;clear hE;obtain⟨a,ha⟩:∃a,(Lib.cut p [58]).1=a:=⟨_,rfl⟩
 obtain⟨b,hb⟩:∃b,(Lib.cut p [58]).2.1=b:=⟨_,rfl⟩
 obtain⟨q,hq⟩:∃q,(Lib.cut p [58]).2.2=q:=⟨_,rfl⟩
 rw[hb,hq] at h;have HC:=lH (fun W (hW:Env W)=>JC 58 p W hW hp);rw[hq,ha,hb] at HC;clear ha hb hq
 cases q with
 | false =>
  clear h;go_enter Tryz.func212,Tryz.ntmps212;go_wp2_with (go_at_call 82;refine(HC.out _ (HE.out.kept (ja _ _))).mono ?_;rintro e w' ⟨rfl,n,rfl⟩)
  exact⟨rfl,rfl,(ja _ _).trans (Kept.drewN _ _)⟩
 | true =>
  have h2:decide (0≤Lib.indexByte b 58)=true:=by simpa using h
  clear h;go_enter Tryz.func212,Tryz.ntmps212;go_wp2_with (first | (go_at_call 82;refine(HC.out _ (HE.out.kept (ja _ _))).mono ?_;rintro e w' ⟨rfl,n,rfl⟩) | (go_at_call 258;refine(jbg 58 b _).mono ?_;rintro e w' ⟨rfl,rfl⟩))
  exact⟨rfl,rfl,(ja _ _).trans (Kept.drewN _ _)⟩
def Jn (p:List UInt8):Nat:=Lib.countByte p 58+Lib.countByte p 33
def zC (p:List UInt8):Int×ByteArray×ByteArray :=
 if Lib.hasPrefix p [45]=true then (4,bytes (Lib.trimPrefix p [45]),ByteArray.empty)
 else if Jn p=0 then (3,bytes p,ByteArray.empty)
 else if (Lib.cut p [58]).2.2=true then (1,bytes (Lib.cut p [58]).1,bytes (Lib.cut p [58]).2.1)
 else (2,bytes (Lib.cut p [33]).1,bytes (Lib.cut p [33]).2.1)
def JW (p:List UInt8):Bool:=decide (p=[])||decide (1<Jn p)||(decide (Jn p=1)&&Lib.hasPrefix p [45])
theorem jm7 (p:List UInt8) (w:World) (hE:Env w) (hp:p.length≤1000000) (h:JW p=false) :
 Calls Tryz.prog 226 #[.string (bytes p)] w fun e w'=>e=.returned (TV (zC p).1 (zC p).2.1 (zC p).2.2)∧Kept w w':=by
 have HE:=lH hE;unfold JW at h;rw[Bool.or_eq_false_iff,Bool.or_eq_false_iff] at h;obtain⟨⟨h0,h1⟩,h2⟩:=h;have e0:((bytes p).toList==([]:List UInt8))=false:=by rw[jn];simpa using h0
 have h1:¬1<Jn p:=by simpa using h1
 have hA:=count_le p 58;have hB:=count_le p 33;have HP:=lH (fun W=>ja8 p [45] W);clear hE h0;obtain⟨A,eA⟩:∃A,Lib.countByte p 58=A:=⟨_,rfl⟩
 obtain⟨B,eB⟩:∃B,Lib.countByte p 33=B:=⟨_,rfl⟩
 have eS:Jn p=A+B:=by unfold Jn;rw[eA,eB]
 rw[eA] at hA;rw[eB] at hB;rw[eS] at h1 h2;by_cases hf:Lib.hasPrefix p [45]=true
 · have hs:A+B=0:=by
    rw[hf,Bool.and_true] at h2;have:¬A+B=1:=by simpa using h2
    omega
   have HV:=lH (show zC p=(4,bytes (Lib.trimPrefix p [45]),ByteArray.empty) by unfold zC;rw[if_pos hf]);obtain⟨rfl,rfl⟩:A=0∧B=0:=by omega
   rw[hf] at HP;clear h1 h2 eS hA hB hf hs;rw[HV.out];go_enter Tryz.func226,Tryz.ntmps226;go_wp2_with (first | (go_at_call 260;refine(J6 _ p _).mono ?_;rintro e w' ⟨rfl,rfl⟩) | (go_at_call 268;refine(HP.out _).mono ?_;rintro e w' ⟨rfl,rfl⟩))
   (try simp only[Exit.inBlock,Exit.then])
   refine bodyPost_ret (v:=TV 4 (bytes (Lib.trimPrefix p [45])) ⟨#[]⟩) (by simp[results,Tryz.results226,go_sem]) rfl ?_;exact⟨rfl,ja _ _⟩
 · have hf:Lib.hasPrefix p [45]=false:=by simpa using hf
   have HG:=lH hf;rw[hf] at HP;clear h2 hf;by_cases hs:A+B=0
   · have HV:=lH (show zC p=(3,bytes p,ByteArray.empty) by unfold zC;rw[if_neg (by rw[HG.out];decide),if_pos (eS.trans hs)]);obtain⟨rfl,rfl⟩:A=0∧B=0:=by omega
     clear h1 eS hA hB hs;rw[HV.out];go_enter Tryz.func226,Tryz.ntmps226;go_wp2_with (first | (go_at_call 260;refine(J6 _ p _).mono ?_;rintro e w' ⟨rfl,rfl⟩) | (go_at_call 268;refine(HP.out _).mono ?_;rintro e w' ⟨rfl,rfl⟩))
     (try simp only[Exit.inBlock,Exit.then])
     refine bodyPost_ret (v:=TV 3 (bytes p) ⟨#[]⟩) (by simp[results,Tryz.results226,go_sem]) rfl ?_;exact⟨rfl,ja _ _⟩
   · have hs1:A+B=1:=by omega
     have hN:¬Jn p=0:=by omega
     have hw:IntKind.i64.wrap ((A:Int)+(B:Int))=1:=by rw[show (A:Int)+(B:Int)=1 by omega];rfl
     have hab:(A:Int)+(B:Int)=1:=by omega
     by_cases hc:(Lib.cut p [58]).2.2=true
     · have HV:=lH (show zC p=(1,bytes (Lib.cut p [58]).1,bytes (Lib.cut p [58]).2.1) by unfold zC;rw[if_neg (by rw[HG.out];decide),if_neg hN,if_pos hc]);clear h1 eS hA hB hs hs1 hN;rw[HV.out];go_enter Tryz.func226,Tryz.ntmps226;go_wp2_with (first | (go_at_call 260;refine(J6 _ p _).mono ?_;rintro e w' ⟨rfl,rfl⟩) | (go_at_call 268;refine(HP.out _).mono ?_;rintro e w' ⟨rfl,rfl⟩) | (go_at_call 82;refine(JC _ p _ (HE.out.kept (ja _ _)) hp).mono ?_;rintro e w' ⟨rfl,n,rfl⟩))
       (try simp only[Exit.inBlock,Exit.then])
       refine bodyPost_ret (v:=TV 1 (bytes (Lib.cut p [58]).1) (bytes (Lib.cut p [58]).2.1)) (by simp[results,Tryz.results226,go_sem]) rfl ?_;exact⟨rfl,zH (zH (zH ((ja _ _).trans (Kept.drewN _ _)) (Nat.le_refl _) _) (Nat.le_refl _) _) (Nat.le_refl _) _⟩
     · have hc:(Lib.cut p [58]).2.2=false:=by simpa using hc
       have HV:=lH (show zC p=(2,bytes (Lib.cut p [33]).1,bytes (Lib.cut p [33]).2.1) by unfold zC;rw[if_neg (by rw[HG.out];decide),if_neg hN,if_neg (by rw[hc];decide)]);clear h1 eS hA hB hs hs1 hN;rw[HV.out];go_enter Tryz.func226,Tryz.ntmps226;go_wp2_with (first | (go_at_call 260;refine(J6 _ p _).mono ?_;rintro e w' ⟨rfl,rfl⟩) | (go_at_call 268;refine(HP.out _).mono ?_;rintro e w' ⟨rfl,rfl⟩) | (go_at_call 82;refine(JC _ p _ (by first | exact HE.out.kept (ja _ _) | exact HE.out.kept ((ja _ _).trans (Kept.drewN _ _))) hp).mono ?_;rintro e w' ⟨rfl,n,rfl⟩))
       (try simp only[Exit.inBlock,Exit.then])
       refine bodyPost_ret (v:=TV 2 (bytes (Lib.cut p [33]).1) (bytes (Lib.cut p [33]).2.1)) (by simp[results,Tryz.results226,go_sem]) rfl ?_;exact⟨rfl,zH (zH (zH (by first | exact(ja _ _).trans (Kept.drewN _ _) | exact((ja _ _).trans (Kept.drewN _ _)).trans (Kept.drewN _ _)) (Nat.le_refl _) _) (Nat.le_refl _) _) (Nat.le_refl _) _⟩
theorem jl0 (p:List UInt8) (w:World) (hE:Env w) (hp:p.length≤1000000) (h:JW p=true) :
 Calls Tryz.prog 226 #[.string (bytes p)] w fun e w'=>e=.panicked [ju 2]∧Kept w w':=by
 unfold JW at h;have hA:=count_le p 58;have hB:=count_le p 33;have HP:=lH (fun W=>ja8 p [45] W);obtain⟨A,eA⟩:∃A,Lib.countByte p 58=A:=⟨_,rfl⟩
 obtain⟨B,eB⟩:∃B,Lib.countByte p 33=B:=⟨_,rfl⟩
 have eS:Jn p=A+B:=by unfold Jn;rw[eA,eB]
 rw[eA] at hA;rw[eB] at hB;rw[eS] at h;clear hE eS;by_cases h0:p=[]
 · have e0:((bytes p).toList==([]:List UInt8))=true:=by rw[jn,h0];rfl
   clear h h0;go_enter Tryz.func226,Tryz.ntmps226;go_wp2_with (first | (go_at_call 260;refine(J6 _ p _).mono ?_;rintro e w' ⟨rfl,rfl⟩) | (go_at_call 268;refine(HP.out _).mono ?_;rintro e w' ⟨rfl,rfl⟩))
   exact⟨rfl,rfl,ja _ _⟩
 · have e0:((bytes p).toList==([]:List UInt8))=false:=by rw[jn];simpa using h0
   by_cases h1:1<A+B
   · have h1':(1:Int)<(A:Int)+(B:Int):=by omega
     clear h h0 h1;go_enter Tryz.func226,Tryz.ntmps226;go_wp2_with (first | (go_at_call 260;refine(J6 _ p _).mono ?_;rintro e w' ⟨rfl,rfl⟩) | (go_at_call 268;refine(HP.out _).mono ?_;rintro e w' ⟨rfl,rfl⟩))
     exact⟨rfl,rfl,ja _ _⟩
   · have h2:A+B=1∧Lib.hasPrefix p [45]=true:=by
      have e1:decide (p=[])=false:=by simpa using h0
      have e2:decide (1<A+B)=false:=by simpa using h1
      rw[e1,e2,Bool.false_or,Bool.false_or,Bool.and_eq_true] at h;exact⟨by simpa using h.1,h.2⟩
     obtain⟨hs,hf⟩:=h2;have hw:IntKind.i64.wrap ((A:Int)+(B:Int))=1:=by rw[show (A:Int)+(B:Int)=1 by omega];rfl
     have hab:(A:Int)+(B:Int)=1:=by omega
     rw[hf] at HP;clear h h0 h1 hs hf hA hB;go_enter Tryz.func226,Tryz.ntmps226;go_wp2_with (first | (go_at_call 260;refine(J6 _ p _).mono ?_;rintro e w' ⟨rfl,rfl⟩) | (go_at_call 268;refine(HP.out _).mono ?_;rintro e w' ⟨rfl,rfl⟩))
     exact⟨rfl,rfl,ja _ _⟩
open Go.RowKit Go.Shelf
attribute [local go_sem] Oper.semAt_some
theorem jo1:(Tryz.prog.info? 144).map (fun i=>(i.zero,i.size,i.bytes))=some (some (.agg #[.string ByteArray.empty,.string ByteArray.empty]),2,32):=by kernel_rfl
theorem jiX {p:List UInt8} (h:p.length≤1000000):js.fine (JH p):=by
 have h1:=(Yl p [58]).1;have h2:=(Yl p [58]).2;unfold JH;refine⟨?_,?_⟩
 · show (bytes _).size≤maxLen;rw[ji];unfold maxLen;omega
 · show (bytes _).size≤maxLen;rw[ji];unfold maxLen;omega
def Jc (s:List UInt8):=Js ZB JH zE s
theorem jfL (w:World) :
 Calls Tryz.prog 211 #[.string (bytes [45]),.func (.func 212) #[] #[],.func (.func 213) #[] #[]] w (jw js 144 (Jc [45]) w.heap.size w):=by
 have e:((bytes [45]).toList==[45])=true:=by rw[jn];rfl
 go_enter Tryz.func211,Tryz.ntmps211;go_wp2;go_ret;exact jw.good rfl (Own.nil _ _ _) (ja _ _)
theorem jhP (s:List UInt8) (w:World) (hE:Env w) (hs:s.length≤1000000) (hd:s≠[45]) :
 Calls Tryz.prog 211 #[.string (bytes s),.func (.func 212) #[] #[],.func (.func 213) #[] #[]] w (jw js 144 (Jc s) w.heap.size w):=by
 have hdash:((bytes s).toList==[45])=false:=by rw[jn];simpa using hd
 have HD0:=lH hd;clear hd;refine ZC (n:=6) Tryz.func211 rfl ?_;simp only[Tryz.ntmps211,List.size_toArray,List.length_cons,List.length_nil,Nat.reduceAdd,Nat.reduceSub,Array.replicate_succ,Array.replicate_zero,List.push_toArray,List.append_toArray,List.nil_append,List.cons_append];refine jQ (j6 (n:=6) ?_);gi_wp2
 refine jQ (j6 (n:=6) ?_);gi_wp2
 refine jQ (j6 (n:=6) ?_);gi_wp2
 obtain⟨V0,hV0⟩:∃V0,(w.alloc (.cells #[.func (.func 212) #[] #[]] 283)).alloc (.cells #[.slice none 0 0] 39)=V0:=⟨_,rfl⟩
 have HV0S:=lH (show V0.heap.size=w.heap.size+2 by rw[←hV0];simp);have HV0K:=lH (show Kept w V0 by rw[←hV0];exact jk _ _ _);have HV0C:=lH (show V0.cell? ⟨w.heap.size+1,0,none⟩=some (.slice none 0 0)∧V0.frozen? ⟨w.heap.size+1,0,none⟩=false∧V0.cell? ⟨w.heap.size,0,none⟩=some (.func (.func 212) #[] #[]) by
  rw[←hV0];exact qJ w _ _ _ _)
 rw[hV0];clear hV0;have HE:=lH hE;have HPL:=lH (fun p (h:p ∈ partsOf s)=>Nat.le_trans (YG s p h) hs);have hcl:(bytes s).size≤281474976710656:=by rw[ji];omega
 clear hE;refine jQ (jQ (j6 (n:=6) ?_));gi_wp2_with (first | (refine⟨trivial,?_⟩;gi_at_call 160;refine(callsIn_wide.2 (Zp _ _ hcl)).mono ?_;rintro e w1 ⟨rfl,k1⟩;have K1:=lH k1;clear k1) | (refine⟨trivial,?_⟩;gi_at_call 252;refine(callsIn_wide.2 (ZX s _)).mono ?_;rintro e w2 ⟨rfl,rfl⟩))
 refine Yg ?_;obtain⟨m,hm⟩:∃m,w1.heap.size=m:=⟨_,rfl⟩
 have bc:=Yp w1 s;have bsz:=YQ w1 s;rw[hm] at bc bsz ⊢;have HM:=lH hm;have hwm:w.heap.size+2≤m:=by rw[←hm,←HV0S.out];exact K1.out.size
 have HWM:=lH hwm;have HB0:=lH (show Below w.heap.size w (boxes w1 s) from HV0K.out.trans (K1.out.trans (Jq w1 s)));have HK0:=lH (show Kept V0 (boxes w1 s) from K1.out.trans (Jq w1 s));have HC0:=lH (show (boxes w1 s).cell? ⟨w.heap.size+1,0,none⟩=some (.slice none 0 0)∧(boxes w1 s).frozen? ⟨w.heap.size+1,0,none⟩=false∧(boxes w1 s).cell? ⟨w.heap.size,0,none⟩=some (.func (.func 212) #[] #[]) from
  ⟨cell_later HK0.out HV0C.out.1,(HK0.out.frozen (p:=⟨w.heap.size+1,0,none⟩) (by rw[HV0S.out];exact Nat.lt_succ_self _)).trans HV0C.out.2.1,cell_later HK0.out HV0C.out.2.2⟩)
 clear hm;refine YO (n:=6) Tryz.func211 (by decide) (m+1) m (m+2) rfl s hs (by omega) (by omega) (by omega) (by omega) (by omega) bc.1 bc.2.1 bc.2.2.1 bc.2.2.2
  (fun k W'=>Below w.heap.size w W'∧(∀p ∈ (partsOf s).take k,ZB p=false)∧W'.cell? ⟨w.heap.size,0,none⟩=some (.func (.func 212) #[] #[])∧X7 js 144 (m+5) (w.heap.size+1) (zN JH (partsOf s) k) W')
  (fun c W'=>c=[ju 2]∧Below w.heap.size w W'∧(partsOf s).any ZB=true)
  (fun k W1 W2 h st=>⟨Below.st h.1 st (by omega) (by omega),h.2.1,jcc h.2.2.1 st (by omega) (by omega),h.2.2.2.st st (by omega) (by omega) (by omega)⟩) (fun k W' h=>HE.out.kept h.1) ⟨HB0.out,by simp,HC0.out.2.2,⟨_,HC0.out.1,HC0.out.2.1,Own.nil _ _ _⟩⟩
  (fun x=>{ tmps:=#[.string (bytes s),.func (.func 212) #[] #[],.func (.func 213) #[] #[],undef,.pointer (some ⟨w.heap.size,0,none⟩),undef,.slice none 0 0,.pointer (some ⟨w.heap.size+1,0,none⟩),.string x,undef,.string (bytes s),.bool false,.string (bytes s),.string (bytes s),
    .func (.func 301) #[] #[.pointer (some ⟨m+1,0,none⟩),.pointer (some ⟨m,0,none⟩),.pointer (some ⟨m+2,0,none⟩)],.string x,
    undef,undef,undef,undef,undef,undef,undef,undef,undef,undef,undef,undef,undef,undef,undef],defers:=[] }) ?assign ?body ?done ?panic
 case assign =>
  intro l x W' K hK;gi_wp2
  exact hK
 case panic =>
  rintro c W' ⟨rfl,hB',hbad⟩ hk';have HV:=lH (show Jc s=(2,[]) by unfold Jc Js;rw[if_neg HD0.out,if_pos hbad]);refine⟨by simp,.inl ⟨_,_,rfl,run_takeDeferred hk',?_⟩⟩;exact jw.bad (by rw[HV.out]) (by decide) (zn hB' (by omega))
 case body =>
  rintro l k p W' hp ⟨hB',hd',hfc,v,hvc',hvf',hvo⟩ hlt';have hmem:p ∈ partsOf s:=List.mem_of_getElem? hp;have HMEM:=lH hmem;have hpl:=HPL.out p hmem;have HE':=lH (HE.out.kept hB');have HB':=lH hB';have HD':=lH hd';have HP:=lH hp;have hvb:w.heap.size+1<W'.heap.size:=by rw[bsz] at hlt';omega
  have HLT:=lH (show m+5≤W'.heap.size by rw[bsz] at hlt';omega);have HHD:Hid ((boxes w1 s).heap.size=m+3):=lH bsz;by_cases hgood:ZB p=false
  · have HGOOD:=lH hgood;obtain⟨x,y,hxy⟩:∃x y,JH p=(x,y):=⟨_,_,rfl⟩
    have HXY:=lH hxy;have HCALL:=lH (jns p W' HE'.out hpl hgood);rw[hxy] at HCALL;obtain⟨av,cv,rfl,q1,q2,q3⟩:=hvo.at_;obtain⟨n,hn⟩:∃n,(zN JH (partsOf s) k).length=n:=⟨_,rfl⟩
    rw[hn] at hvo hvc';have HVO:=lH hvo;have HFC0:=lH hfc;have HN:=lH hn;have hn9:n≤9:=by
     have:=XG (f:=JH) (show k≤(partsOf s).length from Nat.le_of_lt (List.getElem?_eq_some_iff.1 hp).1);omega
    clear bc bsz hB' hd' hp hmem hlt' q3 hvo hn q1 q2 hgood hxy;gi_wp2_with (refine⟨trivial,?_⟩;gi_at_call 212;refine(CallsIn.inRound l (callsIn_wide.2 HCALL.out)).mono ?_;rintro e W1 ⟨rfl,k1⟩;have K1':=lH k1;have hvc1:=cell_later k1 hvc';have hvf1:=(k1.frozen (p:=⟨w.heap.size+1,0,none⟩) hvb).trans hvf';have hm1:w.heap.size+1<W1.heap.size:=Nat.lt_of_lt_of_le hvb k1.size;clear k1 hvc' hvf' hfc;refine Hid.out ?_)
    refine lH ?_;by_cases h8:n≤8
    · obtain⟨i0,hi,hz0,hz1,hz2⟩:=info_parts jo1;gi_wp2_with (gi_at_builtin;go_must (refine wpListIn_append_own _ rfl (.tmp 22) (.tmp 24) _ rfl (m+5) 144 i0 _ 2 32 Tryz.underlying39 hi hz0 hz1 hz2 rfl (by decide) _ n (jd js (zN JH (partsOf s) k)) rfl (((HVO.out.kept K1'.out).kept (jk W1 (.cells #[.string x,.string y] 144) (.cells #[.string x,.string y] 144))).row HN.out) ⟨W1.heap.size+1,0,none⟩ 1 1 [.string x,.string y] rfl rfl (joY _ _ (.string x) (.string y) _) (jfX x y) (by unfold maxLen;omega) (by omega) (by rw[World.size_alloc,World.size_alloc];have:=HLT.out;have:=K1'.out.size;omega) ?_);intro v' w2 hown' hgrow _;refine Hid.out ?_)
      refine lH ?_;obtain⟨g',cap',rfl⟩:=ownsRow_succ hown';have KA:=lH (show Kept W' ((W1.alloc (.cells #[.string x,.string y] 144)).alloc (.cells #[.string x,.string y] 144)) from K1'.out.trans (jk W1 _ _));have hrow:∀r,(Value.slice av n cv).ownBlock=some r→m+5≤r:=fun r hr=>(HVO.out.1.lt r hr).1;have hbl:∀b,b<m+5→w2.heap[b]?=W'.heap[b]?:=fun b hb=>(hgrow.block b (Nat.lt_of_lt_of_le hb (Nat.le_trans HLT.out KA.out.size)) (fun e=>by have:=hrow b e.symm;omega)).trans (KA.out.block b (Nat.lt_of_lt_of_le hb HLT.out));have HBL:=lH hbl;have hvc2:w2.cell? ⟨w.heap.size+1,0,none⟩=some (.slice av n cv):=(World.cell?_of_block (a:=⟨w.heap.size+1,0,none⟩) (hgrow.block (w.heap.size+1) (by simp;omega) (fun e=>by have:=hrow _ e.symm;omega))).trans (cell_later (jk W1 _ _) hvc1);have hvf2:w2.frozen? ⟨w.heap.size+1,0,none⟩=false:=(World.frozen?_of_block (a:=⟨w.heap.size+1,0,none⟩) (hgrow.block (w.heap.size+1) (by simp;omega) (fun e=>by have:=hrow _ e.symm;omega))).trans (((jk W1 _ _).frozen (p:=⟨w.heap.size+1,0,none⟩) hm1).trans hvf1);have HOWN:=lH hown';have HGS:=lH (show Below w.heap.size w w2 from⟨hgrow.os.trans (KA.out.os.trans HB'.out.os),hgrow.tape.trans (KA.out.tape.trans HB'.out.tape),hgrow.output.trans (KA.out.output.trans HB'.out.output),Nat.le_trans HB'.out.size (Nat.le_trans KA.out.size hgrow.size),fun b hb=>(HBL.out b (by omega)).trans (HB'.out.block b hb)⟩);have HFC:=lH (show w2.cell? ⟨w.heap.size,0,none⟩=some (.func (.func 212) #[] #[]) from(World.cell?_of_block (a:=⟨w.heap.size,0,none⟩) (HBL.out w.heap.size (by omega))).trans HFC0.out);clear hvc1 hvf1 hown' hgrow hrow hbl hi hz0 hz1 hz2;gi_wp2
      refine⟨fun b hb=>?_,HGS.out.setCell (p:=⟨w.heap.size+1,0,none⟩) (by show w.heap.size≤w.heap.size+1;omega) _,Z6 HD'.out HP.out HGOOD.out,?_,⟨_,World.cell?_setCell_same' _ _ _ (by rw[hvc2];rfl),by rw[World.frozen?_setCell];exact hvf2,?_⟩⟩
      · have hbm:b<m+5∧b≠w.heap.size+1:=by have:=HHD.out;rcases hb with h | h | h | h | h<;>omega
        exact(Below.heap_setCell w2 ⟨w.heap.size+1,0,none⟩ _ b hbm.2).trans (HBL.out b hbm.1)
      · rw[World.cell?_setCell_other _ _ _ _ (by intro e;injection e with e;omega)];exact HFC.out
      · have hl:(zN JH (partsOf s) (k+1)).length=n+1:=by rw[JD HP.out (by rw[HN.out];exact h8),List.length_append,HN.out];rfl
        have ho:Own js 144 w2 (m+5) (.slice (some ⟨g',0,none⟩) (n+1) cap') (zN JH (partsOf s) (k+1)):=by
         refine⟨?_,?_⟩
         · rw[hl,JD HP.out (by rw[HN.out];exact h8),jC,HXY.out];exact HOWN.out
         · rw[JD HP.out (by rw[HN.out];exact h8)];intro z hz;rcases List.mem_append.1 hz with g | g
           · exact HVO.out.2 z g
           · have:z=JH p:=by simpa using g
             rw[this];exact jiX hpl
        exact ho.setCell_below (a:=⟨w.heap.size+1,0,none⟩) (by show w.heap.size+1<m+5;omega) _
    · have HFULL:=lH (qO (f:=JH) HP.out (by rw[HN.out];exact h8));have h9:8<n:=by omega
      have HQ1:=lH (cell_later (ja W1 (.cells #[.string x,.string y] 144)) hvc1);have HQ2:=lH (((ja W1 (.cells #[.string x,.string y] 144)).frozen (p:=⟨w.heap.size+1,0,none⟩) hm1).trans hvf1);have HFC:=lH (show (W1.alloc (.cells #[.string x,.string y] 144)).cell? ⟨w.heap.size,0,none⟩=some (.func (.func 212) #[] #[]) from cell_later (K1'.out.trans (ja W1 _)) HFC0.out);clear h8;gi_wp2
      refine⟨fun b hb=>?_,HB'.out.trans (Below.mono (Kept.trans K1'.out (ja W1 _)) HB'.out.size),Z6 HD'.out HP.out HGOOD.out,HFC.out,⟨.slice av n cv,HQ1.out,HQ2.out,?_⟩⟩
      · have hbm:b<m+5:=by have:=HHD.out;rcases hb with h | h | h | h | h<;>omega
        exact(Kept.trans K1'.out (ja W1 _)).block b (Nat.lt_of_lt_of_le hbm HLT.out)
      · rw[HFULL.out];exact HVO.out.kept (Kept.trans K1'.out (ja W1 _))
  · have HBAD:=lH (show ZB p=true by simpa using hgood);clear bc bsz hB' hd' hp hmem hlt' hvo hvc' hvf' hgood;gi_wp2_with (refine⟨trivial,?_⟩;gi_at_call 212;refine(CallsIn.inRound l (callsIn_wide.2 (jmb p _ HE'.out hpl HBAD.out))).mono ?_;rintro e W1 ⟨rfl,k1⟩;have K1':=lH k1;clear k1)
    refine⟨rfl,fun b hb=>?_,rfl,HB'.out.trans (Below.mono K1'.out HB'.out.size),?_⟩
    · have hbm:b<m+5:=by have:=HHD.out;rcases hb with h | h | h | h | h<;>omega
      exact K1'.out.block b (Nat.lt_of_lt_of_le hbm HLT.out)
    · rw[List.any_eq_true];exact⟨p,HMEM.out,HBAD.out⟩
 case done =>
  rintro W' ⟨hB',hd',hfc,v,hvc',hvf',hvo⟩ hk';have hany:(partsOf s).any ZB=false:=by
   rw[List.any_eq_false];intro p hp;rw[hd' p (by simpa using hp)];decide
  have hacc:zN JH (partsOf s) (partsOf s).length=((partsOf s).map JH).take 9:=by unfold zN;rw[List.take_length]
  rw[hacc] at hvo;obtain⟨R,hR⟩:∃R,((partsOf s).map JH).take 9=R:=⟨_,rfl⟩
  have HV:=lH (show Jc s=if zE R≠0 then (zE R,[]) else (0,R) by unfold Jc Js;rw[if_neg HD0.out,if_neg (by rw[hany];decide),hR]);rw[hR] at hvo;obtain⟨av,cv,rfl,q1,q2,q3⟩:=hvo.at_;have HVO:=lH hvo;have HCHK:=lH (fun W (k:Kept W' W)=>qV av R.length cv R W (q3.kept k));have HDD:=lH hk';have HB':=lH hB';have HLT:=lH (show m+3<W'.heap.size by have:=(Array.getElem?_eq_some_iff.1 hk').1;rw[bsz] at this;exact this);have HBS:=lH bsz;have hvb:w.heap.size+1<W'.heap.size:=by have:=HLT.out;omega
  clear bc bsz hB' hd' hk' hvo q3 q1 q2 hR hacc hany hfc;refine j6 (n:=6) (wpIn_wide.2 ?_);have KD:=lH (Kept.drew W');have f1:=cell_later KD.out hvc';by_cases hc:zE R=0
  · have HC:=lH hc;have HCW:=lH (HCHK.out _ KD.out);rw[hc] at HCW;clear hc;go_wp2;go_region_held3 (fun W=>W.cell? ⟨w.heap.size+1,0,none⟩=some (.slice av R.length cv)∧Kept W' W)
     (first | exact⟨f1,KD.out⟩ | exact⟨cell_later K1.out f1,KD.out.trans K1.out⟩)
     (first | (go_at_call 213;refine HCW.out.mono ?_;rintro e1 W1 ⟨rfl,k1⟩;have K1:=lH k1;clear k1) | (go_at_call 163;refine(Z8 _ _).mono ?_;rintro e2 w2 ⟨rfl,rfl⟩))
    go_wp2;have K1':=lH (KD.out.trans K1.out);have e1:W1.heap[(boxes w1 s).heap.size]?=some (.deferred (some [])):=(K1'.out.block _ (by rw[HBS.out];exact HLT.out)).trans HDD.out;refine⟨by simp,.inl ⟨_,_,rfl,run_takeDeferred e1,?_⟩⟩;refine⟨_,results_tmp rfl _ _ _,?_⟩;refine jw.good (by rw[HV.out,if_neg (by rw[HC.out];decide)]) (by rw[HV.out,if_neg (by rw[HC.out];decide)];exact((HVO.out.kept K1'.out).put (by rw[HBS.out];omega) _).base_le (by omega)) ?_;exact zn (HB'.out.trans (Below.mono K1'.out HB'.out.size)) (by rw[HBS.out];omega)
  · have HC:=lH hc;have HCW:=lH (HCHK.out _ KD.out);clear hc;go_wp2;refine Code.wp_mono (Q:=fun e a W=>match e with | .panic c=>c=[ju (zE R)]∧Kept W' W∧a.defers=[{ target:=.collected (boxes w1 s).heap.size,args:=#[] }] | _=>False) ?post ?_
    case post =>
     intro e a' W1 h
     cases e<;>try exact h.elim
     obtain⟨rfl,hk,hd⟩:=h;obtain⟨tm,df⟩:=a';dsimp only at hd;subst hd;have e1:W1.heap[(boxes w1 s).heap.size]?=some (.deferred (some [])):=(hk.block _ (by rw[HBS.out];exact HLT.out)).trans HDD.out;refine⟨by simp,.inl ⟨_,_,rfl,run_takeDeferred e1,?_⟩⟩;exact jw.bad (by rw[HV.out,if_pos HC.out]) HC.out (zn (HB'.out.trans (Below.mono hk HB'.out.size)) (by rw[HBS.out];omega))
    refine wp_region_held_drew (S:=fun W=>W.cell? ⟨w.heap.size+1,0,none⟩=some (.slice av R.length cv)∧Kept W' W) (by kernel_rfl) ⟨f1,KD.out⟩ (fun hHeld=>?_);refine tkI 0 ?_;refine tkI 1 ?_;refine tkI 2 ?_;try simp only[nP]
    refine rdH (rs:=[3]) (h:=AllReadyH.cons rfl (fun K hK=>?_) AllReadyH.nil);go_simp;refine HCW.out.mono ?_;rintro e1 W1 ⟨rfl,k1⟩;have K1:=lH k1;refine hK.out _ _ ⟨cell_later k1 f1,KD.out.trans k1⟩ (fun hHeld2=>?_);clear hK K k1;try simp only[nP]
    refine rdH (rs:=[4]) (h:=AllReadyH.cons rfl (fun K hK=>?_) AllReadyH.nil);go_simp;refine(jjl _ _ _ HC.out).mono ?_;rintro e2 w2 ⟨rfl,rfl⟩;first | exact⟨rfl,KD.out.trans K1.out⟩ | exact⟨rfl,rfl,KD.out.trans K1.out,rfl⟩ | exact⟨rfl,KD.out.trans K1.out,rfl⟩
end Go.Proofs.YthmddloeggdohaaGreatDoor
namespace Go.Proofs.YthmddloeggdohaaGreatDoor
open Go.RowKit
theorem jcj (B:Nat) (q:Nat) (x y:Int) (w:World) (hq:w.cell? ⟨q,0,none⟩=some (.int .i64 y)) (hzq:w.frozen? ⟨q,0,none⟩=false) (hBq:B≤q) :
 CallsD Tryz.prog 257 #[.pointer (some ⟨q,0,none⟩)] (.panicking [ju x]) w fun e u' w' =>
  e=.returned (.tuple #[])∧u'=.panicking [{ ju x with recovered:=true }]∧w'.cell? ⟨q,0,none⟩=some (.int .i64 x)∧Below B w w':=by
 have hta:∀W,(Instr.typeAssert (.iface 32 (.int .i64 x)) 20 32 false).run Tryz.prog W=.ok (.int .i64 x) W:=fun _=>by kernel_rfl
 refine callsD_of_wpS Tryz.func257 rfl fun c₀ cs hu=>?_;apply wpS_seq;apply wpS_region;simp[wpOpsS,go_sem,recoverD,hu,Tryz.ntmps257,Exit.thenS];apply wpS_seq;apply wpS_region;simp[wpOpsS,go_sem,recoverD,Exit.thenS];refine wpS_cond (t:=true) (by simp[Act.eval,Array.replicate]) ?_;simp only[if_true];refine wpS_of_wp ?_;simp[Array.replicate];go_wp2;simp[bodyPostS,results,Tryz.results257];exact⟨World.cell?_setCell_same' _ _ _ (by rw[hq];rfl),(Below.refl B w).setCell (p:=⟨q,0,none⟩) hBq _⟩
theorem jgG (q:Addr) (w:World) :
 CallsD Tryz.prog 257 #[.pointer (some q)] .returning w fun e u' w'=>e=.returned (.tuple #[])∧u'=.returning∧w'=w:=by
 refine callsD_of_wpS Tryz.func257 rfl fun c₀ cs hu=>?_;apply wpS_seq;apply wpS_region;simp[wpOpsS,go_sem,recoverD,hu,Tryz.ntmps257,Exit.thenS];apply wpS_seq;apply wpS_region;simp[wpOpsS,go_sem,recoverD,hu,Exit.thenS];refine wpS_cond (t:=false) (by simp[Act.eval,Array.replicate]) ?_;simp only[Bool.false_eq_true,if_false];refine wpS_of_wp (wp_skip ?_)
 cases c₀
 simp_all [bodyPostS,results,Tryz.results257]
def jmV (r:Int×PL) (w:World) (e:Ending) (w':World):Prop :=
 ∃v,e=.returned (.tuple #[v,.int .i64 r.1])∧Own js 144 w' w.heap.size v r.2∧Kept w w'
theorem jhq (C:Addr) (r:Int×PL) (w:World) (hr:r.1≠0→r.2=[])
 (hk:∀W,Kept w W→Calls Tryz.prog 210 #[.pointer (some C)] W (jw js 144 r W.heap.size W)) :
 Calls Tryz.prog 209 #[.func (.func 210) #[] #[.pointer (some C)]] w (jmV r w):=by
 have hmf:=hmfL (P:=Tryz.prog);have HK:=lH hk;have HR:=lH hr;clear hk hr;obtain⟨r1,r2⟩:=r;go_enter_defers Tryz.func209,Tryz.ntmps209
 go_wp2_with fail
 refine(HK.out _ (ja _ _)).mono ?_;rintro e1 w1 ⟨h0,h1,hb⟩;have k1:=hb.size;simp only[World.size_alloc] at k1;have c2:=(hb.cell (p:=⟨w.heap.size,0,none⟩) (by simp))
 have z2:=(hb.frozen (p:=⟨w.heap.size,0,none⟩) (by simp))
 have e2':w1.cell? ⟨w.heap.size,0,none⟩=some (.int .i64 0):=by rw[c2];go_simp
 have y2:w1.frozen? ⟨w.heap.size,0,none⟩=false:=by rw[z2];go_simp
 clear c2 z2;have KB:=lH (show Below w.heap.size w w1 from(ja w _).trans hb);by_cases hx:r1=0
 · subst hx;obtain⟨v,rfl,ho⟩:=h0 rfl;have HO:=lH ho;obtain⟨av,cv,rfl,_,_,_⟩:=ho.at_;have hsz:=World.size_alloc w (.cells #[.int .i64 0] 32);clear h0 h1 hb ho;go_wp2_with fail
   refine leaves_cons (f:=257) (args:=#[.pointer (some ⟨w.heap.size,0,none⟩)]) (by simp) (by simp[go_sem]) ?_;refine(jgG ⟨w.heap.size,0,none⟩ _).mono ?_;rintro e u' w'' ⟨rfl,rfl,rfl⟩;simp[Leaves,settle,results,Tryz.results209,go_sem,e2'];exact⟨_,rfl,(HO.out.setCell_below (a:=⟨w.heap.size,0,none⟩) (by simp) _).base_le (by simp),(KB.out.setCell (p:=⟨w.heap.size,0,none⟩) (Nat.le_refl _) _)⟩
 · obtain rfl:=h1 hx;obtain rfl:=HR.out hx;clear h0 h1 hb;go_wp2_with fail
   refine leaves_cons (f:=257) (args:=#[.pointer (some ⟨w.heap.size,0,none⟩)]) (by simp) (by simp[go_sem]) ?_;refine(jcj w.heap.size w.heap.size r1 0 _ e2' y2 (by omega)).mono ?_;rintro e u' w'' ⟨rfl,rfl,q2,q3⟩;simp[Leaves,settle,results,Tryz.results209,go_sem,q2];exact⟨_,rfl,Own.nil _ _ _,KB.out.trans q3⟩
theorem jhR (s:List UInt8) (w:World) (hE:Env w) (hs:s.length≤1000000) :
 Calls Tryz.prog 211 #[.string (bytes s),.func (.func 212) #[] #[],.func (.func 213) #[] #[]] w (jw js 144 (Jc s) w.heap.size w):=by
 by_cases h:s=[45]
 · subst h;exact jfL w
 · exact jhP s w hE hs h
theorem jmH (C:Addr) (s:List UInt8) (w:World) (h1:w.cell? C=some (.string (bytes s))) (hE:Env w) (hs:s.length≤1000000) :
 Calls Tryz.prog 210 #[.pointer (some C)] w (jw js 144 (Jc s) w.heap.size w):=by
 have HE:=lH hE;clear hE;go_enter Tryz.func210,Tryz.ntmps210;go_wp2_with fail
 refine(jhR s _ HE.out hs).mono ?_;rintro e w' ⟨g0,g1,k⟩;by_cases hx:(Jc s).1=0
 · obtain⟨v,rfl,ho⟩:=g0 hx;have HX:=lH hx;have HO:=lH ho;have HK:=lH k;clear g0 g1 hx ho k;go_wp2;go_ret;exact jw.good HX.out HO.out HK.out
 · obtain rfl:=g1 hx;have HX:=lH hx;have HK:=lH k;clear g0 g1 hx k;go_wp2;exact⟨rfl,jw.bad rfl HX.out HK.out⟩
theorem X6 (s:List UInt8) (w:World) (hE:Env w) (hs:s.length≤1000000) :
 Calls Tryz.prog 164 #[.string (bytes s)] w (jmV (Jc s) w):=by
 have hmf:=hmfL (P:=Tryz.prog);have hC:∀W,Kept (w.alloc (.cells #[.string (bytes s)] 9)) W→Calls Tryz.prog 210 #[.pointer (some ⟨w.heap.size,0,none⟩)] W (jw js 144 (Jc s) W.heap.size W):=by
  intro W k;have c1:=k.cell (p:=⟨w.heap.size,0,none⟩) (by simp);exact jmH ⟨w.heap.size,0,none⟩ s W (by rw[c1];go_simp) (hE.kept ((ja w _).trans k)) hs
 have HC:=lH hC;clear hC hE hs;go_enter Tryz.func164,Tryz.ntmps164;go_wp2_with fail
 refine(jhq ⟨w.heap.size,0,none⟩ (Jc s) _ Xs HC.out).mono ?_;rintro e w' ⟨v,rfl,ho,k⟩;have HO:=lH ho;have HK:=lH k;clear ho k;go_wp2;go_ret2
 exact⟨v,rfl,HO.out.base_le (by simp),(ja w _).trans HK.out⟩
end Go.Proofs.YthmddloeggdohaaGreatDoor
