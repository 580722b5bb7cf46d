/- What serves all packages,and package by package the contracts of the functions that the law calls. -/
import Derived.Test.YteoedoomhnnnoaaGreatDoorG0
import Derived.Test.YteoedoomhnnnoaaGreatDoorG1
import Derived.Lib.ItoaLen
import Derived.Lib.AppendIntMem
import Derived.Lib.SmallJoins
import Derived.StillTailTactics
import Derived.Test.YteoedoomhnnnoaaGreatDoorRows
import Derived.Stop.LaidErr
import Derived.Stop.Joined
import Derived.MakeChecks
set_option linter.unusedVariables false
set_option maxRecDepth 100000
set_option maxHeartbeats 25600000
namespace Go.Proofs.YteoedoomhnnnoaaGreatDoor.Vec
open Go.RowKit
theorem jgB (C:Addr) (r:Int×V) (w:World) (hr:r.1≠0→r.2=[])
 (hk:∀W,Kept w W→Calls Tryz.prog 234 #[.pointer (some C)] W (zM r W.heap.size W)) :
 Calls Tryz.prog 233 #[.func (.func 234) #[] #[.pointer (some C)]] w (ja2 r w):=by
 have hmf:=hmfL (P:=Tryz.prog);have HK:=lH hk;have HR:=lH hr;clear hk hr;obtain⟨r1,r2⟩:=r;go_enter_defers Tryz.func233,Tryz.ntmps233
 go_wp2_with fail
 refine(HK.out _ (ja _ _)).mono ?_;rintro e1 w1 ⟨h0,h1,hb⟩;have k1:=hb.size;simp only[World.size_alloc] at k1;have c2:=(hb.cell (p:=⟨w.heap.size,0,none⟩) (by simp))
 have z2:=(hb.frozen (p:=⟨w.heap.size,0,none⟩) (by simp))
 have e2':w1.cell? ⟨w.heap.size,0,none⟩=some (.int .i64 0):=by rw[c2];go_simp
 have y2:w1.frozen? ⟨w.heap.size,0,none⟩=false:=by rw[z2];go_simp
 clear c2 z2;have KB:=lH (show Below w.heap.size w w1 from(ja w _).trans hb);by_cases hx:r1=0
 · subst hx;obtain⟨v,rfl,ho⟩:=h0 rfl;have HO:=lH ho;obtain⟨av,cv,rfl,_,_,_⟩:=ho.at_;have hsz:=World.size_alloc w (.cells #[.int .i64 0] 39);clear h0 h1 hb ho;go_wp2_with fail
   refine leaves_cons (f:=278) (args:=#[.pointer (some ⟨w.heap.size,0,none⟩)]) (by simp) (by simp[go_sem]) ?_;refine(jah ⟨w.heap.size,0,none⟩ _).mono ?_;rintro e u' w'' ⟨rfl,rfl,rfl⟩;simp[Leaves,settle,results,Tryz.results233,go_sem,e2'];exact⟨_,rfl,(HO.out.setCell_below (a:=⟨w.heap.size,0,none⟩) (by simp) _).base_le (by simp),KB.out.setCell (p:=⟨w.heap.size,0,none⟩) (Nat.le_refl _) _⟩
 · obtain rfl:=h1 hx;obtain rfl:=HR.out hx;clear h0 h1 hb;go_wp2_with fail
   refine leaves_cons (f:=278) (args:=#[.pointer (some ⟨w.heap.size,0,none⟩)]) (by simp) (by simp[go_sem]) ?_;refine(Y3 w.heap.size w.heap.size r1 0 _ e2' y2 (by omega)).mono ?_;rintro e u' w'' ⟨rfl,rfl,q2,q3⟩;simp[Leaves,settle,results,Tryz.results233,go_sem,q2];exact⟨_,rfl,jH.nil _ _ _,KB.out.trans q3⟩
theorem jhc (s:List UInt8):(Ju s).1≠0→(Ju s).2=[]:=by
 unfold Ju;split
 · exact fun _=>rfl
 · split
   · exact fun _=>rfl
   · split
     · exact fun _=>rfl
     · exact fun h=>absurd rfl h
theorem jfp (C:Addr) (s:List UInt8) (w:World) (h1:w.cell? C=some (.string (bytes s))) (hE:Env w) (hs:s.length≤1000000) :
 Calls Tryz.prog 234 #[.pointer (some C)] w (zM (Ju s) w.heap.size w):=by
 have HE:=lH hE;clear hE;go_enter Tryz.func234,Tryz.ntmps234;go_wp2_with fail
 refine(jiQ s _ HE.out hs).mono ?_;rintro e w' ⟨g0,g1,k⟩;by_cases hx:(Ju s).1=0
 · obtain⟨v,rfl,ho⟩:=g0 hx;have HX:=lH hx;have HO:=lH ho;have HK:=lH k;clear g0 g1 hx ho k;go_wp2;go_ret;exact zM.good HX.out HO.out HK.out
 · obtain rfl:=g1 hx;have HX:=lH hx;have HK:=lH k;clear g0 g1 hx k;go_wp2;exact⟨rfl,zM.bad rfl HX.out HK.out⟩
def ZV (s:List UInt8):Int×V:=if s=[45] then (0,[]) else Ju s
theorem X3 (s:List UInt8) (w:World) (hE:Env w) (hs:s.length≤1000000) :
 Calls Tryz.prog 189 #[.string (bytes s)] w (ja2 (ZV s) w):=by
 by_cases hd:s=[45]
 · have HV:=lH (show ZV s=(0,[]) by unfold ZV;rw[if_pos hd]);have e:((bytes s).toList==[45])=true:=by rw[hd,Lib.toList_data];rfl
   clear hE hs hd;go_enter Tryz.func189,Tryz.ntmps189;go_wp2;go_ret2
   exact⟨_,by rw[HV.out];rfl,by rw[HV.out];exact jH.nil _ _ _,ja _ _⟩
 · have HV:=lH (show ZV s=Ju s by unfold ZV;rw[if_neg hd]);have e:((bytes s).toList==[45])=false:=by
    rw[Lib.toList_data];show (s.toArray.toList==[45])=false;simpa using hd
   have hmf:=hmfL (P:=Tryz.prog);have hC:∀W,Kept (w.alloc (.cells #[.string (bytes s)] 9)) W→Calls Tryz.prog 234 #[.pointer (some ⟨w.heap.size,0,none⟩)] W (zM (Ju s) W.heap.size W):=by
    intro W k;have c1:=k.cell (p:=⟨w.heap.size,0,none⟩) (by simp);exact jfp ⟨w.heap.size,0,none⟩ s W (by rw[c1];go_simp) (hE.kept ((ja w _).trans k)) hs
   have HC:=lH hC;clear hC hE hs hd;go_enter Tryz.func189,Tryz.ntmps189;go_wp2_with fail
   refine(jgB ⟨w.heap.size,0,none⟩ (Ju s) _ (jhc s) HC.out).mono ?_;rintro e w' ⟨v,rfl,ho,k⟩;have HO:=lH ho;have HK:=lH k;clear ho k;go_wp2;go_ret2
   exact⟨v,by rw[HV.out];rfl,by rw[HV.out];exact HO.out.base_le (by simp),(ja w _).trans HK.out⟩
theorem jfF (C:Addr) (a:Option Addr) (len cap:Nat) (l:V) (w:World)
 (hk:∀W,Kept w W→Calls Tryz.prog 291 #[.pointer (some C)] W (Chk l (.slice a len cap) W)) :
 Calls Tryz.prog 233 #[.func (.func 291) #[] #[.pointer (some C)]] w (fun e w'=>∃v,e=.returned (.tuple #[v,.int .i64 (jm l)])∧Kept w w'):=by
 have hmf:=hmfL (P:=Tryz.prog);have HK:=lH hk;clear hk;obtain⟨r1,hr1⟩:∃r1,jm l=r1:=⟨_,rfl⟩
 rw[hr1];have HR1:=lH hr1;clear hr1;go_enter_defers Tryz.func233,Tryz.ntmps233
 go_wp2_with fail
 refine(HK.out _ (ja _ _)).mono ?_;rintro e1 w1 ⟨h0,h1,hb⟩;have k1:=hb.size;simp only[World.size_alloc] at k1;have c2:=(hb.cell (p:=⟨w.heap.size,0,none⟩) (by simp))
 have z2:=(hb.frozen (p:=⟨w.heap.size,0,none⟩) (by simp))
 have e2':w1.cell? ⟨w.heap.size,0,none⟩=some (.int .i64 0):=by rw[c2];go_simp
 have y2:w1.frozen? ⟨w.heap.size,0,none⟩=false:=by rw[z2];go_simp
 clear c2 z2;have KB:=lH (show Below w.heap.size w w1 from(ja w _).trans hb);rw[HR1.out] at h0 h1;by_cases hx:r1=0
 · subst hx;obtain rfl:=h0 rfl;have hsz:=World.size_alloc w (.cells #[.int .i64 0] 39);clear h0 h1 hb;go_wp2_with fail
   refine leaves_cons (f:=278) (args:=#[.pointer (some ⟨w.heap.size,0,none⟩)]) (by simp) (by simp[go_sem]) ?_;refine(jah ⟨w.heap.size,0,none⟩ _).mono ?_;rintro e u' w'' ⟨rfl,rfl,rfl⟩;simp[Leaves,settle,results,Tryz.results233,go_sem,e2'];exact KB.out.setCell (p:=⟨w.heap.size,0,none⟩) (Nat.le_refl _) _
 · obtain rfl:=h1 hx;clear h0 h1 hb;go_wp2_with fail
   refine leaves_cons (f:=278) (args:=#[.pointer (some ⟨w.heap.size,0,none⟩)]) (by simp) (by simp[go_sem]) ?_;refine(Y3 w.heap.size w.heap.size r1 0 _ e2' y2 (by omega)).mono ?_;rintro e u' w'' ⟨rfl,rfl,q2,q3⟩;simp[Leaves,settle,results,Tryz.results233,go_sem,q2];exact KB.out.trans q3
theorem jfc (C:Addr) (a:Option Addr) (len cap:Nat) (l:V) (w:World) (h1:w.cell? C=some (.slice a len cap)) (hr:jt w a len l) :
 Calls Tryz.prog 291 #[.pointer (some C)] w (Chk l (.slice a len cap) w):=by
 have HR:=lH hr;clear hr;go_enter Tryz.func291,Tryz.ntmps291;go_wp2_with fail
 refine(Zp a len cap l _ HR.out).mono ?_;rintro e w' ⟨g0,g1,k⟩;by_cases hx:jm l=0
 · obtain rfl:=g0 hx;have HX:=lH hx;have HK:=lH k;clear g0 g1 hx k;go_wp2;go_ret;exact Chk.good HX.out HK.out
 · obtain rfl:=g1 hx;have HX:=lH hx;have HK:=lH k;clear g0 g1 hx k;go_wp2;exact⟨rfl,Chk.bad rfl HX.out HK.out⟩
theorem qX (a:Option Addr) (len cap:Nat) (l:V) (w:World) (hr:jt w a len l) :
 Calls Tryz.prog 247 #[.slice a len cap] w fun e w'=>e=.returned (.int .i64 (jm l))∧Kept w w':=by
 have hmf:=hmfL (P:=Tryz.prog);have hC:∀W,Kept (w.alloc (.cells #[.slice a len cap] 45)) W→Calls Tryz.prog 291 #[.pointer (some ⟨w.heap.size,0,none⟩)] W (Chk l (.slice a len cap) W):=by
  intro W k;have c1:=k.cell (p:=⟨w.heap.size,0,none⟩) (by simp);exact jfc ⟨w.heap.size,0,none⟩ a len cap l W (by rw[c1];go_simp) (hr.kept ((ja w _).trans k))
 have HC:=lH hC;clear hC hr;go_enter Tryz.func247,Tryz.ntmps247;go_wp2_with fail
 refine(jfF ⟨w.heap.size,0,none⟩ a len cap l _ HC.out).mono ?_;rintro e w' ⟨v,rfl,k⟩;have HK:=lH k;clear k;go_wp2;go_ret;exact⟨rfl,(ja w _).trans HK.out⟩
open Go.RowKit Go.Shelf
theorem jmT:(Tryz.prog.info? 55).map (·.size)=some 2:=by kernel_rfl
theorem joV:liesAt Tryz.prog Tryz.prog.depth 55 (2 / Tryz.prog.cellsOf 55) 0 55 1=true:=by kernel_rfl
theorem jlz:(Tryz.prog.info? 5).map (fun i=>(i.zero,i.size,i.bytes))=some (some (.int .u8 0),1,1):=by kernel_rfl
abbrev IsB (B b:Nat) (l:List UInt8) (w:World):Prop:=Lib.IsBuilder 55 5 B b (Lib.byteCells l) w
theorem jkO (b:Nat) (w:World) (h0:w.cell? ⟨b,0,none⟩=some (.pointer (some ⟨b,0,none⟩))) :
 Calls Tryz.prog 92 #[.pointer (some ⟨b,0,none⟩)] w fun e w'=>e=.returned (.tuple #[])∧w'=w:=by
 obtain⟨j,hj,_⟩:=Option.map_eq_some_iff.1 jmT;go_enter Tryz.func92,Tryz.ntmps92;go_wp2;rw[Lib.run_neq_ptr_same w _ Tryz.underlying52 hj];go_wp2;go_end0
 exact⟨rfl,rfl⟩
theorem jjd (b:Nat) (w:World) (h0:w.cell? ⟨b,0,none⟩=some (.pointer none)) (hsh:w.shape? b=some (55,2)) (hfz:w.frozen? ⟨b,0,none⟩=false) :
 Calls Tryz.prog 92 #[.pointer (some ⟨b,0,none⟩)] w fun e w'=>e=.returned (.tuple #[])∧w'=w.setCell ⟨b,0,none⟩ (.pointer (some ⟨b,0,none⟩)):=by
 obtain⟨j,hj,hjs⟩:=Option.map_eq_some_iff.1 jmT;go_enter Tryz.func92,Tryz.ntmps92;go_wp2;rw[Lib.run_to_unsafe w ⟨b,0,none⟩ Tryz.underlying52 Tryz.underlying218 hj (by rw[hjs];decide) hsh (Nat.zero_lt_succ 1)];simp only[Result.andThen];rw[Oper.upon_value];go_wp2;rw[run_callFunc_extern Tryz.func140 (by kernel_rfl) (by kernel_rfl) (by kernel_rfl) (e:=Extern.AbiNoEscape.same) (by kernel_rfl)];rw[Lib.run_noEscape];simp only[Result.andThen];rw[Oper.upon_value];go_wp2;rw[Lib.run_from_unsafe w ⟨b,0,none⟩ Tryz.underlying218 Tryz.underlying52 hj hsh joV];simp only[Result.andThen];rw[Oper.upon_value];go_wp2;go_end0
 exact⟨rfl,rfl⟩
theorem jl3 (B b:Nat) (l:List UInt8) (w:World) (h:IsB B b l w) :
 Calls Tryz.prog 92 #[.pointer (some ⟨b,0,none⟩)] w fun e w'=>e=.returned (.tuple #[])∧(Lib.BuilderAt 55 5 B b (.pointer (some ⟨b,0,none⟩)) (Lib.byteCells l) w'∧Below B w w'∧∀g,g≠b→w'.heap[g]?=w.heap[g]?):=by
 rcases h with h | h
 · refine(jjd b w h.cell0 h.shape h.frozen0).mono ?_;rintro e w' ⟨rfl,rfl⟩;exact⟨rfl,h.used _,(Below.refl B w).setCell (p:=⟨b,0,none⟩) h.1 _,fun g hg=>Below.heap_setCell w ⟨b,0,none⟩ _ g hg⟩
 · refine(jkO b w h.cell0).mono ?_;rintro e w' ⟨rfl,rfl⟩;exact⟨rfl,h,Below.refl _ _,fun _ _=>rfl⟩
theorem IsB.lt {B b:Nat} {l:List UInt8} {w:World} (h:IsB B b l w):b<w.heap.size:=by
 rcases h with h | h<;>exact h.lt
theorem IsB.kept {B b:Nat} {l:List UInt8} {w w':World} (h:IsB B b l w) (k:Kept w w'):IsB B b l w':=by
 have key:∀p,Lib.BuilderAt 55 5 B b p (Lib.byteCells l) w→Lib.BuilderAt 55 5 B b p (Lib.byteCells l) w':=by
  rintro p ⟨hB,v,hb,⟨h0,h1⟩,hne⟩;refine⟨hB,v,(k.block b (Array.getElem?_eq_some_iff.1 hb).1).trans hb,⟨h0,h1.imp id ?_⟩,hne⟩;rintro ⟨g,cap,cur,rfl,hbg,hg,rest⟩;exact⟨g,cap,cur,rfl,hbg,(k.block g (Array.getElem?_eq_some_iff.1 hg).1).trans hg,rest⟩
 exact h.imp (key _) (key _)
def jar (b:Nat) (w w':World):Prop:=∀g cs fr,g≠b→w.heap[g]?=some (.cells cs 170 fr)→w'.heap[g]?=w.heap[g]?
theorem jar.trans {b:Nat} {x y z:World} (h:jar b x y) (k:jar b y z):jar b x z:=fun g cs fr hg hc=>(k g cs fr hg ((h g cs fr hg hc).trans hc)).trans (h g cs fr hg hc)
def joD (B b:Nat) (l:List UInt8) (n:Nat) (w:World) (e:Ending) (w':World):Prop:=e=.returned (.tuple #[.int .i64 (n:Int),.nilIface])∧IsB B b l w'∧Below B w w'∧jar b w w'
theorem Zo (B b:Nat) (l:List UInt8) (s:ByteArray) (w:World) (h:IsB B b l w) (hlen:l.length+s.size≤140737488355328) (hBw:B≤w.heap.size) :
 Calls Tryz.prog 49 #[.pointer (some ⟨b,0,none⟩),.string s] w (joD B b (l++s.data.toList) s.size w):=by
 obtain⟨i0,hi,hz0,hz1,hz2⟩:=info_parts jlz;go_enter Tryz.func49,Tryz.ntmps49;go_wp2_with fail
 refine(jl3 B b l _ h).mono ?_;rintro e w1 ⟨rfl,h1,hb1,ho1⟩;obtain⟨hB,v,hbk,hown,hne⟩:=h1;have c0:w1.cell? ⟨b,0,none⟩=some (.pointer (some ⟨b,0,none⟩)):=by rw[Lib.cell_of_heap hbk];rfl
 have c1:w1.cell? ⟨b,1,none⟩=some v:=by rw[Lib.cell_of_heap hbk];rfl
 have hll:(Lib.byteCells l).length=l.length:=Lib.byteCells_length l;have HLL:=lH hll;clear hll;go_wp2_with (at_builtin;refine Lib.wpList_append_own_string _ rfl _ _ 53 9 rfl B 5 i0 Tryz.underlying53 Tryz.underlying9 hi hz0 hz1 hz2 _ _ _ rfl hown s rfl (by rw[HLL.out];unfold maxLen;omega) (by rw[HLL.out];omega) (by have:=hb1.size;omega) ?_;intro v' w2 hown' hgrow _;refine Hid.out ?_)
 refine lH ?_;have hlt:b<w1.heap.size:=(Array.getElem?_eq_some_iff.1 hbk).1;have hb2:w2.heap[b]?=some (.cells #[.pointer (some ⟨b,0,none⟩),v] 55 (0,0)):=by
  rw[hgrow.block b hlt (fun e=>hne e.symm)];exact hbk
 have d0:w2.cell? ⟨b,0,none⟩=some (.pointer (some ⟨b,0,none⟩)):=by rw[Lib.cell_of_heap hb2];rfl
 have d1:w2.cell? ⟨b,1,none⟩=some v:=by rw[Lib.cell_of_heap hb2];rfl
 have f1:w2.frozen? ⟨b,1,none⟩=false:=Lib.frozen_of_heap hb2 1;obtain⟨ao,n',cap,rfl⟩:∃ao n' cap,v'=.slice ao n' cap:=by
  rcases hown'.2 with ⟨hv,_⟩ | ⟨g,cap,cur,hv,_⟩
  · exact⟨_,_,_,hv⟩
  · exact⟨_,_,_,hv⟩
 have HG:=lH (hb1.grown hgrow (by have:=hb1.size;omega) (fun k hk=>(hown.lt k hk).1));have HO:=lH hown';have HOT:=lH (show jar b w w2 from fun g cs fr hg hc=>by
  have hc1:=(ho1 g hg).trans hc;refine(hgrow.block g (Array.getElem?_eq_some_iff.1 hc1).1 (fun e=>?_)).trans (ho1 g hg);rcases hown.2 with ⟨rfl,_⟩ | ⟨g',cap',cur,rfl,_,hg',_⟩
  · cases e
  · have e2:(some g:Option Nat)=some g':=e;injection e2 with e2;subst e2;rw[hg'] at hc1;injection hc1 with hc1;injection hc1 with _ ht;exact absurd ht (by decide))
 have HB2:=lH hb2;clear hbk hown hne hown' hgrow hb2 hi hz0 hz1 hz2 h hb1 c0 c1 ho1;go_wp2;go_ret2
 refine⟨rfl,.inr ?_,HG.out.setCell (p:=⟨b,1,none⟩) hB _,HOT.out.trans (fun g cs fr hg _=>Below.heap_setCell w2 ⟨b,1,none⟩ _ g hg)⟩;refine Lib.BuilderAt.put (T:=55) (e:=5) hB HB2.out (bs':=Lib.byteCells (l++s.data.toList)) ?_ (by decide);have:=HO.out;rw[HLL.out] at this;have e1:Lib.byteCells (l++s.data.toList)=Lib.byteCells l++Lib.strCells s:=by simp[Lib.byteCells,Lib.strCells]
 rw[e1,List.length_append,HLL.out,Lib.strCells_length];exact this
structure EnvT (w:World):Prop extends Env w where
 tab:Lib.TabIs Tryz.prog w "internal/strconv.uint64pow10" .u64 Lib.pow10Tab
theorem jiC:Tryz.prog.globalNamed "internal/strconv.uint64pow10"=some 0:=by kernel_rfl
theorem EnvT.kept {w w':World} (h:EnvT w) (k:Kept w w'):EnvT w':=by
 refine⟨h.toEnv.kept k,Joins.tab_stays jiC h.tab k (Nat.le_refl _)⟩
def j7 (first:Bool):V→List UInt8
 | []=>[]
 | x::t=>(if first=true then [] else [44])++(x.1.data.toList++([61]++(Lib.itoa x.2++j7 false t)))
def j9 (l:V):List UInt8:=if l=[] then [45] else j7 true l
theorem qk:∀{l:V} {k:Nat},JU l=true→k<l.length→(nm l k).size≤50
 | [],_,_,h=>absurd h (by simp)
 | x::t,0,h,_=>by
  simp only[JU,Bool.and_eq_true,decide_eq_true_eq] at h;exact h.1
 | x::t,k+1,h,hk=>by
  simp only[JU,Bool.and_eq_true,decide_eq_true_eq] at h;show (nm t k).size≤50;exact qk h.2 (by simpa using hk)
theorem jdQ (n:Int) (w:World) (hE:EnvT w) (h0:-9223372036854775808≤n) (h1:n≤9223372036854775807) :
 Calls Tryz.prog 94 #[.int .i64 n,.int .i64 10] w fun e w'=>e=.returned (.string (bytes (Lib.itoa n)))∧Kept w w':=by
 refine(Tryz.strconv_FormatInt_10 n h0 h1 w hE.tab).mono ?_;rintro e w' ⟨rfl,k,os,rfl⟩;exact⟨rfl,Lib.below_grow _ _ (Nat.le_refl _) _ _⟩
theorem ji (l:List UInt8):(bytes l).size=l.length:=rfl
theorem jcU (a:Option Addr) (len cap:Nat) (l:V) (w:World) (hE:EnvT w) (hr:jt w a len l) (hfew:Zu l=true) :
 Calls Tryz.prog 51 #[.slice a len cap] w fun e w'=>e=.returned (.string (bytes (j9 l)))∧Kept w w':=by
 have hl:=hr.1;have hf:=hr.2.2.1;unfold Zu at hfew;simp only[Bool.and_eq_true,decide_eq_true_eq] at hfew;have h20:len≤20:=by omega
 rcases hr.form with h0 | ⟨b,off,rfl⟩
 · subst h0;have HE:=lH (show j9 l=[45] by rw[List.eq_nil_of_length_eq_zero hl];rfl);clear hr hl hf hfew hE;go_enter Tryz.func51,Tryz.ntmps51;go_wp2;go_ret;exact⟨by rw[HE.out];rfl,Kept.refl _⟩
 · by_cases h0:len=0
   · subst h0;have HE:=lH (show j9 l=[45] by rw[List.eq_nil_of_length_eq_zero hl];rfl);clear hr hl hf hfew hE;go_enter Tryz.func51,Tryz.ntmps51;go_wp2;go_ret;exact⟨by rw[HE.out];rfl,Kept.refl _⟩
   · have hne:((len:Int)==0)=false:=by
      have:(len:Int)≠0:=by omega
      simpa using this
     have HV:=lH (show j9 l=j7 true l by unfold j9;rw[if_neg (by intro e;rw[e] at hl;simp at hl;omega)]);have HS:=lH (fun k (hk:k<l.length)=>qk hfew.2 hk);have HF:=lH hf;have HR:=lH hr;have HL:=lH hl;have HE:=lH hE;clear hr hl hf hfew hE h0;go_enter Tryz.func51,Tryz.ntmps51;go_wp2;go_loopw [11] (fun i wr=>∃(k:Nat) (acc:List UInt8),k≤len∧i=.int .i64 k∧acc++j7 (decide (k=0)) (l.drop k)=j7 true l∧acc.length≤k*80∧IsB w.heap.size w.heap.size acc wr∧Below w.heap.size w wr) (fun i _=>len-(intOf i).toNat)
     case atStart=>exact⟨0,[],Nat.zero_le _,rfl,rfl,Nat.le_refl _,Lib.fresh_isBuilder _ _ w,ja _ _⟩
     case round =>
      obtain⟨k,acc,hk,rfl,hrest,hacc,hI,hB⟩:=hrel;have HB:=lH hB;by_cases hlt:k<len
      · obtain⟨hb,c1,c2⟩:=(HR.out.kept hB).cells hlt;have HI:=lH (show k<l.length by rw[HL.out];exact hlt);have hs50:=HS.out k HI.out;have hq:=(HF.out k HI.out).2;have HIT:=lH (Lib.itoa_length_le (qn l k) hq.1 hq.2);have HREST:=lH (show acc++(if decide (k=0)=true then [] else [44])++(nm l k).data.toList++[61]++Lib.itoa (qn l k)++j7 (decide (k+1=0)) (l.drop (k+1))=j7 true l by
         rw[←hrest,drop_cons HI.out];simp[j7,List.append_assoc])
        have hszn:(nm l k).data.toList.length=(nm l k).size:=by rw[Array.length_toList,ByteArray.size_data]
        have HSZ:=lH hszn;obtain⟨W1,hW1⟩:∃W1,wr.alloc (.cells #[.string (nm l k),.int .i64 (qn l k)] 170)=W1:=⟨_,rfl⟩
        have I1:=lH (show IsB w.heap.size w.heap.size acc W1 by rw[←hW1];exact hI.kept (ja wr _));have B1:=lH (show Below w.heap.size w W1 by rw[←hW1];exact hB.trans (Below.mono (ja wr _) hB.size));have A1:=lH (show W1.heap[wr.heap.size]?=some (.cells #[.string (nm l k),.int .i64 (qn l k)] 170 (0,0)) by rw[←hW1];exact World.alloc_heap_new wr _);have hne2:wr.heap.size≠w.heap.size:=by have:=hI.lt;omega
        have HW1:=lH hW1;clear hrest hI hB hszn hW1;by_cases hk0:k=0
        · have hd:decide (0<k)=false:=by subst hk0;decide
          have HREST:=lH (show acc++(nm l k).data.toList++[61]++Lib.itoa (qn l k)++j7 (decide (k+1=0)) (l.drop (k+1))=j7 true l by
           have:=HREST.out;rw[decide_eq_true hk0] at this;simpa using this)
          clear hk0;go_wp2_with fail
          rw[HW1.out];have a1:W1.cell? ⟨wr.heap.size,0,none⟩=some (.string (nm l k)):=by rw[Lib.cell_of_heap A1.out];rfl
          go_wp2_with fail
          refine(Zo w.heap.size w.heap.size acc (nm l k) _ I1.out (by omega) B1.out.size).mono ?_;rintro e w2 ⟨rfl,i2,b2,o2⟩;have B2:=lH (B1.out.trans b2);have I2:=lH i2;have A2:=lH ((o2 _ _ _ hne2 A1.out).trans A1.out);clear i2 b2 o2 a1;go_wp2_with fail
          refine(Zo w.heap.size w.heap.size (acc++(nm l k).data.toList) (bytes [61]) _ I2.out (by rw[List.length_append];have e1:(bytes [61]).size=1:=rfl;have e3:=HSZ.out;omega) B2.out.size).mono ?_;rintro e w3 ⟨rfl,i3,b3,o3⟩;have B3:=lH (B2.out.trans b3);have I3:=lH (show IsB w.heap.size w.heap.size (acc++(nm l k).data.toList++[61]) w3 from i3);have A3:=lH ((o3 _ _ _ hne2 A2.out).trans A2.out);clear i3 b3 o3;have a2:w3.cell? ⟨wr.heap.size,1,none⟩=some (.int .i64 (qn l k)):=by rw[Lib.cell_of_heap A3.out];rfl
          go_wp2_with fail
          refine(jdQ (qn l k) _ (HE.out.kept B3.out) hq.1 hq.2).mono ?_;rintro e w4 ⟨rfl,k4⟩;have B4:=lH (B3.out.trans (Below.mono k4 B3.out.size));have I4:=lH (I3.out.kept k4);clear k4 a2;have SZ4:=lH (show (acc++(nm l k).data.toList++[61]).length+(bytes (Lib.itoa (qn l k))).size≤140737488355328 by
           have e1:(bytes (Lib.itoa (qn l k))).size=(Lib.itoa (qn l k)).length:=ji _;have e2:=HIT.out;have e3:=HSZ.out;simp only[List.length_append,List.length_cons,List.length_nil];omega)
          go_wp2_with fail
          refine(Zo w.heap.size w.heap.size (acc++(nm l k).data.toList++[61]) (bytes (Lib.itoa (qn l k))) _ I4.out SZ4.out B4.out.size).mono ?_;rintro e w5 ⟨rfl,i5,b5,-⟩;have B5:=lH (B4.out.trans b5);have I5:=lH (show IsB w.heap.size w.heap.size (acc++(nm l k).data.toList++[61]++Lib.itoa (qn l k)) w5 from i5);clear i5 b5;go_wp2_with fail
          go_roundw
          case rel =>
           refine⟨k+1,acc++(nm l k).data.toList++[61]++Lib.itoa (qn l k),by omega,by go_num,HREST.out,?_,I5.out,B5.out⟩;have e2:=HIT.out;have e3:=HSZ.out;simp only[List.length_append,List.length_cons,List.length_nil];omega
          case measure=>simp[intOf];omega
        · have hd:decide (0<k)=true:=decide_eq_true (by omega);have HREST:=lH (show acc++[44]++(nm l k).data.toList++[61]++Lib.itoa (qn l k)++j7 (decide (k+1=0)) (l.drop (k+1))=j7 true l by
           have:=HREST.out;rw[decide_eq_false hk0] at this;simpa using this)
          have hk0:0<k:=by omega
          go_wp2_with fail
          rw[HW1.out];refine(Zo w.heap.size w.heap.size acc (bytes [44]) _ I1.out (by have e1:(bytes [44]).size=1:=rfl;omega) B1.out.size).mono ?_;rintro e w0 ⟨rfl,i0,b0,o0⟩;have B1:=lH (B1.out.trans b0);have I1:=lH (show IsB w.heap.size w.heap.size (acc++[44]) w0 from i0);have A1:=lH ((o0 _ _ _ hne2 A1.out).trans A1.out);clear i0 b0 o0;have SZ1:=lH (show (acc++[44]).length+(nm l k).size≤140737488355328 by
           simp only[List.length_append,List.length_cons,List.length_nil];omega)
          have SZ2:=lH (show (acc++[44]++(nm l k).data.toList).length+(bytes [61]).size≤140737488355328 by
           have e1:(bytes [61]).size=1:=rfl;have e3:=HSZ.out;simp only[List.length_append,List.length_cons,List.length_nil];omega)
          have a1:w0.cell? ⟨wr.heap.size,0,none⟩=some (.string (nm l k)):=by rw[Lib.cell_of_heap A1.out];rfl
          go_wp2_with fail
          refine(Zo w.heap.size w.heap.size (acc++[44]) (nm l k) _ I1.out SZ1.out B1.out.size).mono ?_;rintro e w2 ⟨rfl,i2,b2,o2⟩;have B2:=lH (B1.out.trans b2);have I2:=lH i2;have A2:=lH ((o2 _ _ _ hne2 A1.out).trans A1.out);clear i2 b2 o2 a1;go_wp2_with fail
          refine(Zo w.heap.size w.heap.size (acc++[44]++(nm l k).data.toList) (bytes [61]) _ I2.out SZ2.out B2.out.size).mono ?_;rintro e w3 ⟨rfl,i3,b3,o3⟩;have B3:=lH (B2.out.trans b3);have I3:=lH (show IsB w.heap.size w.heap.size (acc++[44]++(nm l k).data.toList++[61]) w3 from i3);have A3:=lH ((o3 _ _ _ hne2 A2.out).trans A2.out);clear i3 b3 o3;have a2:w3.cell? ⟨wr.heap.size,1,none⟩=some (.int .i64 (qn l k)):=by rw[Lib.cell_of_heap A3.out];rfl
          go_wp2_with fail
          refine(jdQ (qn l k) _ (HE.out.kept B3.out) hq.1 hq.2).mono ?_;rintro e w4 ⟨rfl,k4⟩;have B4:=lH (B3.out.trans (Below.mono k4 B3.out.size));have I4:=lH (I3.out.kept k4);clear k4 a2;have SZ4:=lH (show (acc++[44]++(nm l k).data.toList++[61]).length+(bytes (Lib.itoa (qn l k))).size≤140737488355328 by
           have e1:(bytes (Lib.itoa (qn l k))).size=(Lib.itoa (qn l k)).length:=ji _;have e2:=HIT.out;have e3:=HSZ.out;simp only[List.length_append,List.length_cons,List.length_nil];omega)
          go_wp2_with fail
          refine(Zo w.heap.size w.heap.size (acc++[44]++(nm l k).data.toList++[61]) (bytes (Lib.itoa (qn l k))) _ I4.out SZ4.out B4.out.size).mono ?_;rintro e w5 ⟨rfl,i5,b5,-⟩;have B5:=lH (B4.out.trans b5);have I5:=lH (show IsB w.heap.size w.heap.size (acc++[44]++(nm l k).data.toList++[61]++Lib.itoa (qn l k)) w5 from i5);clear i5 b5;go_wp2_with fail
          go_roundw
          case rel =>
           refine⟨k+1,acc++[44]++(nm l k).data.toList++[61]++Lib.itoa (qn l k),by omega,by go_num,HREST.out,?_,I5.out,B5.out⟩;have e2:=HIT.out;have e3:=HSZ.out;simp only[List.length_append,List.length_cons,List.length_nil];omega
          case measure=>simp[intOf];omega
      · have HD:=lH (show acc=j7 true l by rw[←hrest,List.drop_of_length_le (by rw[HL.out];omega)];simp[j7]);have HI:=lH hI;clear hrest hI hB;go_wp2_with fail
        refine(Tryz.Builder_String_any w.heap.size w.heap.size acc _ HI.out HB.out.size).mono ?_;rintro e w1 ⟨rfl,hb1⟩;have HB1:=lH hb1;clear hb1;go_wp2;go_ret;exact⟨by rw[HV.out,←HD.out];rfl,HB.out.trans HB1.out⟩
theorem Reads.nil (w:World):Reads w (.slice none 0 0) []:=⟨none,0,rfl,Nat.le_refl _,by decide,jt.nil w⟩
theorem jbN {v:Value} {l:V} {c:Int} {w:World} (h:Reads w v l) (e:jm l=c) :
 Calls Tryz.prog 247 #[v] w fun x w'=>x=.returned (.int .i64 c)∧Kept w w':=by
 subst e;obtain⟨a,cap,rfl,h1,h2,h3⟩:=h;exact qX a _ cap l w h3
theorem Z6 {v:Value} {l:V} {c:Int} {w:World} (h:Reads w v l) (e:jm l=c) :
 Calls Tryz.prog 131 #[v] w fun x w'=>x=.returned (.int .i64 c)∧Kept w w':=by
 subst e;obtain⟨a,cap,rfl,h1,h2,h3⟩:=h;exact Xk a _ cap l w h3
theorem jdG {v:Value} {l:V} {s:List UInt8} {w:World} (hE:EnvT w) (h:Reads w v l) (hf:Zu l=true) (e:j9 l=s) :
 Calls Tryz.prog 51 #[v] w fun x w'=>x=.returned (.string (bytes s))∧Kept w w':=by
 subst e;obtain⟨a,cap,rfl,h1,h2,h3⟩:=h;exact jcU a _ cap l w hE h3 hf
theorem jmV {v v':Value} {l l':V} {c:Bool} {w:World} (h:Reads w v l) (h':Reads w v' l') (e:jP l' l=c) :
 Calls Tryz.prog 172 #[v,v'] w fun x w'=>x=.returned (.bool c)∧Kept w w':=by
 subst e;obtain⟨a,cap,rfl,h1,h2,h3⟩:=h;obtain⟨a',cap',rfl,h1',h2',h3'⟩:=h';exact jmc a a' _ cap _ cap' l l' w h3 h3'
theorem jaD {n:ByteArray} {c:Bool} {w:World} (h:n.size≤maxLen) (e:isName n=c) :
 Calls Tryz.prog 246 #[.string n] w fun x w'=>x=.returned (.bool c)∧w=w':=by
 subst e;exact zk n w h
theorem jfZ {v:Value} {l:V} {c:Bool} {w:World} (h:Reads w v l) (e:Zu l=c) :
 Calls Tryz.prog 83 #[v] w fun x w'=>x=.returned (.bool c)∧w=w':=by
 subst e;obtain⟨a,cap,rfl,h1,h2,h3⟩:=h;exact jed a _ cap l w h3
def cpu:ByteArray:=⟨#[99,112,117]⟩
def mem:ByteArray:=⟨#[109,101,109]⟩
def kA:V:=[(cpu,100),(mem,5)]
theorem jig:(Tryz.prog.info? 167).map (fun i=>(i.zero,i.size,i.bytes))=some (some (.agg #[.string ByteArray.empty,.int .i64 0]),2,24):=by kernel_rfl
theorem jeJ {l:V} {k:Nat} (h:k<l.length):l.take (k+1)=l.take k++[(nm l k,qn l k)]:=by
 rw[List.take_add_one];congr 1;have:l.getD k (ByteArray.empty,0)=l[k]:=by simp[List.getD,h]
 have e:(nm l k,qn l k)=l[k]:=by simp only[nm,qn,this]
 rw[e];simp[h]
theorem jgK (a:Option Addr) (len cap:Nat) (l:V) (w:World) (hr:jt w a len l) (hlen:len≤1000000) :
 Calls Tryz.prog 105 #[.slice a len cap] w (fun e w'=>∃x,e=.returned x∧jH 167 w' w.heap.size x l∧Kept w w'):=by
 have hl:=hr.1;obtain⟨i0,hi,hz0,hz1,hz2⟩:=info_parts jig;rcases hr.form with h0 | ⟨b,off,rfl⟩
 · subst h0;have hl0:l=[]:=List.eq_nil_of_length_eq_zero hl;subst hl0;clear hr hl hi hz0 hz1 hz2;go_enter Tryz.func105,Tryz.ntmps105;go_wp2;refine wp_loop_rounds 1 ?_;rw[rounds_succ];go_wp2;go_ret;exact⟨_,rfl,jH.nil _ _ _,Kept.refl _⟩
 · have HR:=lH hr;have HL:=lH hl;have HF:=lH hr.2.2.1;clear hr hl;go_enter Tryz.func105,Tryz.ntmps105;go_wp2;go_loopw [3,4] (fun v i wr=>∃k:Nat,k≤len∧i=.int .i64 k∧jH 167 wr w.heap.size v (l.take k)∧Below w.heap.size w wr) (fun _ i _=>len-(intOf i).toNat)
   case atStart=>exact⟨0,Nat.zero_le _,rfl,jH.nil _ _ _,Below.refl _ _⟩
   case round =>
    obtain⟨k,hk,rfl,ho,hB⟩:=hrel;have HO:=lH ho;have HB:=lH hB;have HT:=lH (show (l.take k).length=k by rw[List.length_take,HL.out];omega);have HOWN:=lH (show wr.ownsRow w.heap.size 167 2 u3 k (cellsOf (l.take k)) by have:=HO.out.1;rw[HT.out] at this;exact this);by_cases hlt:k<len
    · obtain⟨hb,c1,c2⟩:=(HR.out.kept hB).cells hlt;have HI:=lH (show k<l.length by rw[HL.out];exact hlt);have hbw:b<w.heap.size:=(HR.out.cells hlt).1;have hbase:w.heap.size≤wr.heap.size:=hB.size;have HNE:=lH (show u3.ownBlock≠some b by
       intro e;have:=(HOWN.out.lt b e).1;omega)
      have HBASE:=lH (show w.heap.size≤(wr.alloc (.cells #[.string (nm l k),.int .i64 (qn l k)] 167)).drew.heap.size by simp;omega);have HBD:=lH (show Below w.heap.size w ((wr.alloc (.cells #[.string (nm l k),.int .i64 (qn l k)] 167)).drew) from HB.out.trans (Below.mono ((ja wr _).trans (Kept.drewN _ 1)) hbase));have hk1:(k:Int)<(len:Int):=by omega
      have HFK:=lH (HF.out k HI.out);clear ho hB;go_wp2_with fail
      go_region_held3 (fun W=>W.cell? ⟨b,off+k*2,none⟩=some (.string (nm l k))∧W.cell? ⟨b,off+k*2+1,none⟩=some (.int .i64 (qn l k)))
       (first
         | go_keep
         | (go_split_ands
            refine⟨?_,?_⟩
            · (refine(hgrow.cell_far ⟨b,off+k*2,none⟩ (by simp;omega) (Ne.symm HNE.out)).trans ?_;assumption)
            · (refine(hgrow.cell_far ⟨b,off+k*2+1,none⟩ (by simp;omega) (Ne.symm HNE.out)).trans ?_;assumption)))
       ((refine step_append_lies _ (by rfl) _ _ _ (by rfl) w.heap.size 167 i0 _ 2 24 Tryz.underlying71 hi hz0 hz1 hz2 rfl (by decide) u3 k (cellsOf (l.take k)) (by rfl) ((HOWN.out.alloc _).drew)
          ⟨wr.heap.size,0,none⟩ 1 1 [.string (nm l k),.int .i64 (qn l k)] (by rfl) (by rfl) (World.news_of_block (cs:=#[.string (nm l k),.int .i64 (qn l k)]) (t:=167) (fr:=(0,0)) (heap_alloc_new wr _)) (Yr [(nm l k,qn l k)])
          (by decide) (by unfold maxLen;omega) (by omega) (by simp;omega) (wr.heap.size+1) (by simp) ?_;intro gg cap1 w1 hown1 hgrow hat hlt1))
      all_goals
       go_wp2;go_roundw
       case rel=>exact⟨k+1,by omega,by go_num,⟨by rw[jeJ HI.out,Z0,List.length_append,HT.out];exact hown1,by rw[jeJ HI.out];exact HO.out.2.snoc HFK.out.1 HFK.out.2.1 HFK.out.2.2⟩,HBD.out.grown hgrow HBASE.out (fun j hj=>(HOWN.out.lt j hj).1)⟩
       case measure=>simp[intOf];omega
    · have HK:=lH (show l.take k=l by rw[List.take_of_length_le (by rw[HL.out];omega)]);clear ho hB;go_wp2;go_ret;exact⟨_,rfl,by have h:=HO.out;rw[HK.out] at h;exact h,HB.out⟩
theorem jcv:∀s:List UInt8,Op.bytesLess s s=false
 | []=>rfl
 | a::s=>by
  have:¬a<a:=UInt8.lt_irrefl a;simp[Op.bytesLess,jcv s,this]
theorem jdr:∀{a b c:List UInt8},Op.bytesLess a b=true→Op.bytesLess b c=true→Op.bytesLess a c=true
 | _,_,[],_,h=>by simp[Op.bytesLess] at h
 | [],_,_::_,_,_=>by simp[Op.bytesLess]
 | x::a,[],z::c,h,_=>by simp[Op.bytesLess] at h
 | x::a,y::b,z::c,h,g=>by
  simp only[Op.bytesLess,Bool.or_eq_true,Bool.and_eq_true,decide_eq_true_eq,beq_iff_eq] at h g ⊢;rcases h with h | ⟨rfl,h⟩
  · rcases g with g | ⟨rfl,g⟩
    · exact .inl (UInt8.lt_trans h g)
    · exact .inl h
  · rcases g with g | ⟨rfl,g⟩
    · exact .inl g
    · exact .inr ⟨rfl,jdr h g⟩
theorem jgo:∀{a b:List UInt8},Op.bytesLess a b=false→Op.bytesLess b a=false→a=b
 | [],[],_,_=>rfl
 | [],_::_,h,_=>by simp[Op.bytesLess] at h
 | _::_,[],_,h=>by simp[Op.bytesLess] at h
 | x::a,y::b,h,g=>by
  simp only[Op.bytesLess,Bool.or_eq_false_iff,decide_eq_false_iff_not,Bool.and_eq_false_iff,beq_eq_false_iff_ne] at h g;have e:x=y:=by
   have h1:=UInt8.not_lt.1 h.1;have h2:=UInt8.not_lt.1 g.1;exact UInt8.le_antisymm h2 h1
  subst e;have h2:=h.2.resolve_left (by simp);have g2:=g.2.resolve_left (by simp);rw[jgo h2 g2]
theorem jjI (s t:ByteArray):ltS s t=Op.bytesLess s.data.toList t.data.toList:=by unfold ltS;rw[Lib.toList_data,Lib.toList_data]
theorem zt {s t:ByteArray}:eqS s t=true↔s=t:=by
 unfold eqS;rw[Lib.toList_data,Lib.toList_data,beq_iff_eq];exact⟨fun h=>Go.WideShapes.bytes_inj h,fun h=>by rw[h]⟩
theorem qc (s:ByteArray):ltS s s=false:=by rw[jjI];exact jcv _
theorem JZ {s t u:ByteArray} (h:ltS s t=true) (g:ltS t u=true):ltS s u=true:=by
 rw[jjI] at *;exact jdr h g
theorem jcb {s t:ByteArray} (h:ltS s t=false) (g:ltS t s=false):s=t:=by
 rw[jjI] at *;exact Go.WideShapes.bytes_inj (jgo h g)
theorem Xr {s t:ByteArray} (h:ltS s t=true):s≠t:=by rintro rfl;rw[qc] at h;cases h
theorem jeW {s t:ByteArray} (h:ltS s t=true) (g:ltS t s=true):False:=Xr (JZ h g) rfl
def Gd (l:V):Prop:=(∀x ∈ l,isName x.1=true∧0<x.2∧x.2≤9223372036854775807)∧l.Pairwise (fun x y=>ltS x.1 y.1=true)
theorem Gd.nil:Gd []:=⟨fun x hx=>absurd hx (by simp),.nil⟩
theorem Gd.cons {x:ByteArray×Int} {t:V}:Gd (x::t)↔(isName x.1=true∧0<x.2∧x.2≤9223372036854775807)∧(∀y ∈ t,ltS x.1 y.1=true)∧Gd t:=by
 unfold Gd;rw[List.pairwise_cons,List.forall_mem_cons];constructor
 · rintro ⟨⟨a,b⟩,c,d⟩;exact⟨a,c,b,d⟩
 · rintro ⟨a,c,b,d⟩;exact⟨⟨a,b⟩,c,d⟩
theorem qz (x:ByteArray×Int) (t:V):jO (x::t) x.1=x.2:=by rw[jO,if_pos (zt.2 rfl)]
theorem YB {x:ByteArray×Int} {n:ByteArray} (t:V) (h:x.1≠n):jO (x::t) n=jO t n:=by rw[jO,if_neg (fun e=>h (zt.1 e))]
theorem jgj:∀{l:V} {n:ByteArray},(∀y ∈ l,y.1≠n)→jO l n=0
 | [],_,_=>rfl
 | x::t,n,h=>by rw[YB t (h x (by simp))];exact jgj fun y hy=>h y (by simp[hy])
theorem get_mem:∀{l:V} {n:ByteArray},jO l n≠0→∃y ∈ l,y.1=n
 | [],_,h=>absurd rfl h
 | x::t,n,h=>by
  by_cases e:x.1=n
  · exact⟨x,by simp,e⟩
  · rw[YB t e] at h;obtain⟨y,hy,hn⟩:=get_mem h;exact⟨y,by simp[hy],hn⟩
theorem jbJ:∀{l:V} (n:ByteArray),Gd l→0≤jO l n∧jO l n≤9223372036854775807
 | [],_,_=>⟨Int.le_refl _,(by decide:(0:Int)≤9223372036854775807)⟩
 | x::t,n,h=>by
  have h':=Gd.cons.1 h;by_cases e:x.1=n
  · subst e;rw[qz];omega
  · rw[YB t e];exact jbJ n h'.2.2
theorem jlc:∀{l:V} {x:ByteArray×Int},Gd l→x ∈ l→jO l x.1=x.2
 | [],_,_,h=>absurd h (by simp)
 | y::t,x,h,hx=>by
  have h':=Gd.cons.1 h;rcases List.mem_cons.1 hx with rfl | hx
  · exact qz _ _
  · rw[YB t (Xr (h'.2.1 x hx))];exact jlc h'.2.2 hx
theorem jiU {l:V} {n:ByteArray} (h:∀y ∈ l,ltS n y.1=true):jO l n=0:=jgj fun y hy=>(Xr (h y hy)).symm
theorem Gd.len:∀{b r:V},Gd r→Gd b→(∀n,jO r n≠0→jO b n≠0)→r.length≤b.length
 | [],[],_,_,_=>Nat.le_refl _
 | [],x::s,hr,_,h=>by
  have:=h x.1;rw[qz] at this;have h1:=(Gd.cons.1 hr).1;exact absurd rfl (this (by omega))
 | y::t,[],_,_,_=>Nat.zero_le _
 | y::t,x::s,hr,hb,h=>by
  have hr':=Gd.cons.1 hr;have hb':=Gd.cons.1 hb;have:s.length≤t.length:=Gd.len hr'.2.2 hb'.2.2 fun n hn=>by
   obtain⟨z,hz,rfl⟩:=get_mem hn;have hlt:=hr'.2.1 z hz;have hb2:=h z.1 (by rw[YB s (Xr hlt)];exact hn);by_cases e:y.1=z.1
   · obtain⟨u,hu,hux⟩:=get_mem (h x.1 (by rw[qz];omega));rcases List.mem_cons.1 hu with rfl | hu
     · rw[←hux,e,qc] at hlt;cases hlt
     · have:=hb'.2.1 u hu;rw[hux,e] at this;exact(jeW hlt this).elim
   · rw[YB t e] at hb2;exact hb2
  simp only[List.length_cons];omega
theorem qG {s t:ByteArray} (h:leS s t=false):ltS t s=true:=by
 unfold leS at h;rw[Bool.or_eq_false_iff] at h
 cases e:ltS t s with
 | true=>rfl
 | false=>rw[jcb h.1 e,zt.2 rfl] at h;cases h.2
theorem qi {l:V} (h:jm l=0) (hf:zo l):Gd l:=by
 have h2:jG none l=0:=by
  unfold jm at h;split at h
  · cases h
  · exact h
 have key:∀(l:V) (p:Option ByteArray),jG p l=0→zo l→Gd l∧(∀x,p=some x→∀y ∈ l,ltS x y.1=true):=by
  intro l
  induction l with
  | nil=>intro p _ _;exact⟨Gd.nil,fun _ _ y hy=>absurd hy (by simp)⟩
  | cons x t ih =>
   intro p hc hf;rw[zo.cons] at hf;unfold jG at hc;split at hc
   · cases hc
   · rename_i n1;split at hc
     · cases hc
     · rename_i n2;split at hc
       · cases hc
       · rename_i n3;obtain⟨hg,hall⟩:=ih _ hc hf.2;have hx:=hall x.1 rfl;refine⟨Gd.cons.2 ⟨⟨by simpa using n1,by omega,hf.1.2.2⟩,hx,hg⟩,?_⟩;rintro q rfl y hy;have hq:ltS q x.1=true:=qG (by simpa [jJ] using n3);rcases List.mem_cons.1 hy with rfl | hy
         · exact hq
         · exact JZ hq (hx y hy)
 exact(key l none h2 hf).1
theorem je2 {l:V} {s:ByteArray} (hg:Gd l) (h:∀y ∈ l,y.1=s∨ltS s y.1=true) :
 (jy l s).1=jO l s∧Gd (jy l s).2∧(∀y ∈ (jy l s).2,ltS s y.1=true)∧(∀n,n≠s→jO (jy l s).2 n=jO l n)∧(∀m,(∀y ∈ l,ltS m y.1=true)→∀y ∈ (jy l s).2,ltS m y.1=true):=by
 cases l with
 | nil=>exact⟨rfl,hg,fun y hy=>absurd hy (by simp[jy]),fun _ _=>rfl,fun _ _ y hy=>absurd hy (by simp[jy])⟩
 | cons x t =>
  have hg':=Gd.cons.1 hg;rw[Jc];by_cases e:x.1=s
  · rw[if_pos (zt.2 e)];subst e;exact⟨(qz x t).symm,hg'.2.2,hg'.2.1,fun n hn=>(YB t (Ne.symm hn)).symm,fun m hm y hy=>hm y (by simp[hy])⟩
  · rw[if_neg (fun c=>e (zt.1 c))];have hx:ltS s x.1=true:=(h x (by simp)).resolve_left e;have hall:∀y ∈ x::t,ltS s y.1=true:=fun y hy=>by
     rcases List.mem_cons.1 hy with rfl | hy
     · exact hx
     · exact JZ hx (hg'.2.1 y hy)
    exact⟨(jiU hall).symm,hg,hall,fun _ _=>rfl,fun m hm=>hm⟩
theorem jfn {la lb:V} (ha:Gd la) (hb:Gd lb) (h:0<la.length+lb.length) :
 isName (jl la lb)=true∧(∀y ∈ la,y.1=jl la lb∨ltS (jl la lb) y.1=true)∧(∀y ∈ lb,y.1=jl la lb∨ltS (jl la lb) y.1=true) ∧
  (∀m,(∀y ∈ la,ltS m y.1=true)→(∀y ∈ lb,ltS m y.1=true)→ltS m (jl la lb)=true):=by
 have own:∀{x:ByteArray×Int} {t:V},Gd (x::t)→∀y ∈ x::t,y.1=x.1∨ltS x.1 y.1=true:=fun {x t} hg y hy=>by
  rcases List.mem_cons.1 hy with rfl | hy
  · exact .inl rfl
  · exact .inr ((Gd.cons.1 hg).2.1 y hy)
 cases la with
 | nil =>
  cases lb with
  | nil=>simp at h
  | cons y t=>exact⟨(Gd.cons.1 hb).1.1,fun z hz=>absurd hz (by simp),own hb,fun m _ hm=>hm y (by simp)⟩
 | cons x s =>
  cases lb with
  | nil=>exact⟨(Gd.cons.1 ha).1.1,own ha,fun z hz=>absurd hz (by simp),fun m hm _=>hm x (by simp)⟩
  | cons y t =>
   rw[Zz];by_cases e:ltS y.1 x.1=true
   · rw[if_pos e];refine⟨(Gd.cons.1 hb).1.1,fun z hz=>.inr ?_,own hb,fun m _ hm=>hm y (by simp)⟩;rcases own ha z hz with hz | hz
     · rw[hz];exact e
     · exact JZ e hz
   · rw[if_neg e];refine⟨(Gd.cons.1 ha).1.1,own ha,fun z hz=>?_,fun m hm _=>hm x (by simp)⟩;have e':ltS y.1 x.1=false:=by simpa using e
     have hxy:y.1=x.1∨ltS x.1 y.1=true:=by
      cases e2:ltS x.1 y.1 with
      | true=>exact .inr rfl
      | false=>exact .inl (jcb e' e2)
     rcases own hb z hz with hz | hz
     · rw[hz];exact hxy
     · rcases hxy with hxy | hxy
       · rw[←hxy];exact .inr hz
       · exact .inr (JZ hxy hz)
theorem Reads.fine {v:Value} {l:V} {w:World} (h:Reads w v l):zo l:=by
 obtain⟨a,cap,rfl,h1,h2,h3⟩:=h;exact h3.2.2.1
open Go.ChangeShapes Go.WideShapes Go.ChangeAt Go.RowKit Go.Deep
theorem jku:Tryz.prog.cellsOf 170=2:=by kernel_rfl
theorem jlt:Tryz.prog.cellsOf 385=1:=by kernel_rfl
theorem ZJ:Tryz.prog.cellsOf 9=1:=by kernel_rfl
theorem jav:Tryz.prog.cellsOf 2=1:=by kernel_rfl
theorem jec {H:Type} {enc:TypeId×Value→H} {w:World} {base fuel:Nat} {sp:Nat→Bool} {held:Bool} {cs:List Value} {x:DataW H×List MemPlace} (h:DataW.trod enc Tryz.prog w base sp held fuel 170 cs=some x) :
 ∃(s:ByteArray) (n:Int),cs=[.string s,.int .i64 n]∧s.size≤maxLen∧-9223372036854775808≤n∧n≤9223372036854775807:=by
 obtain⟨ys,m,-,-,hlen,hyl,hf⟩:=DataW.trod_struct Tryz.underlying170 h;rw[jku] at hlen
 match cs,hlen with
 | [c0,c1],_ =>
  have h0:DataW.trod enc Tryz.prog w base sp held m 9 (([c0,c1].drop 0).take (Tryz.prog.cellsOf 9))=ys[0]?:=hf 0 _ rfl;have h1:DataW.trod enc Tryz.prog w base sp held m 2 (([c0,c1].drop 1).take (Tryz.prog.cellsOf 2))=ys[1]?:=hf 1 _ rfl;rw[ZJ] at h0;rw[jav] at h1;obtain⟨y0,e0⟩:∃y,ys[0]?=some y:=⟨_,List.getElem?_eq_getElem (by rw[hyl];decide)⟩
  obtain⟨y1,e1⟩:∃y,ys[1]?=some y:=⟨_,List.getElem?_eq_getElem (by rw[hyl];decide)⟩
  rw[e0] at h0;rw[e1] at h1;obtain⟨s,q0,-,hs⟩:=DataW.trod_string Tryz.underlying9 h0;obtain⟨n,q1,-,hn⟩:=DataW.trod_int Tryz.underlying2 h1;simp only[List.drop_zero,List.take_succ_cons,List.take_zero,List.cons.injEq,and_true,List.drop_succ_cons] at q0 q1;subst q0;subst q1;have:=bounds_i64 hn;exact⟨s,n,rfl,hs,this.1,this.2⟩
theorem jiy {l m:V} {i:Nat} (h:i<l.length):nm (l++m) i=nm l i∧qn (l++m) i=qn l i:=by
 unfold nm qn;simp[List.getD,List.getElem?_append_left h]
theorem jiE (l:V) (s:ByteArray) (n:Int):nm (l++[(s,n)]) l.length=s∧qn (l++[(s,n)]) l.length=n:=by
 unfold nm qn;simp[List.getD]
theorem zX {H:Type} {enc:TypeId×Value→H} {w:World} {base fuel:Nat} {sp:Nat→Bool} {held:Bool} {v:Value} {x:DataW H×List MemPlace} (h:DataW.trod enc Tryz.prog w base sp held fuel 45 [v]=some x) :
 ∃l,Reads w v l:=by
 rcases open_slice Tryz.underlying45 h with ⟨hcs,-⟩ | ⟨a,len,cap,m,n,D,Pl,hcs,hb,hl,hm,hmm,hx,hi⟩
 · cases hcs;exact⟨[],Reads.nil w⟩
 · cases hcs
   have hlm:len≤m:=by rw[hmm];split<;>omega
   have key:∀k,k≤len→∃l:V,l.length=k∧∀i,i<k→((nm l i).size≤maxLen∧-9223372036854775808≤qn l i∧qn l i≤9223372036854775807) ∧
    w.cell? ((a.add (i*2)).add 0)=some (.string (nm l i))∧w.cell? ((a.add (i*2)).add 1)=some (.int .i64 (qn l i)):=by
    intro k
    induction k with
    | zero=>exact fun _=>⟨[],rfl,fun i hi=>absurd hi (by omega)⟩
    | succ k ih =>
     intro hk;obtain⟨l,e,hall⟩:=ih (by omega);obtain⟨cs',hc,ht'⟩:=hi k (by omega);obtain⟨s,q,rfl,b1,b2,b3⟩:=jec ht';rw[jku] at hc;obtain⟨-,-,hat⟩:=World.cells?_some hc;refine⟨l++[(s,q)],by simp[e],fun i hi=>?_⟩;by_cases e2:i=k
     · subst e2;subst e;rw[(jiE l s q).1,(jiE l s q).2];exact⟨⟨b1,b2,b3⟩,hat 0 (by decide),hat 1 (by decide)⟩
     · rw[(jiy (by omega)).1,(jiy (by omega)).2];exact hall i (by omega)
   obtain⟨l,e,hall⟩:=key len (Nat.le_refl _);subst e;refine⟨l,_,cap,rfl,hl,hm,rfl,Nat.le_trans hl hm,fun i hi=>(hall i hi).1,?_⟩;by_cases h0:l.length=0
   · exact .inl h0
   · obtain⟨b,off,spot⟩:=a;have hc:=(hall 0 (by omega)).2.1;have hspot:spot=none:=by simpa [Addr.add] using World.cell?_spot hc
     subst hspot;have hcell:∀i,i<l.length→w.cell? ⟨b,off+i*2,none⟩=some (.string (nm l i))∧w.cell? ⟨b,off+i*2+1,none⟩=some (.int .i64 (qn l i)):=fun i hi=>by
      have c:=(hall i hi).2;by_cases hi0:i=0
      · subst hi0;simpa [Addr.add] using c
      · have h2:¬i*2=0:=by omega
        simpa [Addr.add,h2] using c
     exact .inr ⟨b,off,rfl,World.block_lt_of_cell? _ _ (hcell 0 (by omega)).1,hcell⟩
theorem star : "*" ++ "errors.errorString" = "*errors.errorString":=by decide
theorem jgC (u:TypeId) (h:Tryz.prog.typeName? 3 u=some "*errors.errorString"):u=383 :=
 typeName_ptr_named (nm := "errors.errorString") (by rw[star];kernel_rfl) (by kernel_rfl) (by decide) u (by rw[star];exact h)
theorem jlV:(Rows.laid_internal_strconv_uint64pow10:DataW Unit)=Lib.tabData .u64 Lib.pow10Tab:=by kernel_rfl
theorem je0:Tryz.prog.globalNamed "strconv.ErrRange"=some 5:=by kernel_rfl
theorem jki {W:World} (hL:laidMetH Tryz.prog Rows.textBackRow.laid W) (hS:W.ShapedOpen Tryz.prog):EnvT W:=by
 rw[MakeChecks.laidMetH_plain _ _ _ (by kernel_rfl)] at hL;have h3:laidMet Tryz.prog (("internal/strconv.uint64pow10",Rows.laid_internal_strconv_uint64pow10)::_) W:=hL.tail.tail;rw[jlV] at h3;refine⟨⟨?_,?_⟩,?_⟩
 · exact cell_of_shapedOpen_int (zero:=#[.int .i64 0]) (t:=3) hS (of_decide_eq_true (by kernel_rfl)) (by kernel_rfl) rfl (by kernel_rfl) (by kernel_rfl) Tryz.underlying3
 · have h5:laidMet Tryz.prog (("strconv.ErrRange",Rows.laid_strconv_ErrRange)::_) W:=hL.tail.tail.tail.tail;unfold Rows.laid_strconv_ErrRange at h5;obtain⟨a,s,hv,-⟩:=laid_sentinel h5 je0 (by kernel_rfl) Tryz.underlying113 jgC Tryz.underlying383 Tryz.underlying385 rfl rfl Tryz.underlying9 jlt ZJ;exact⟨_,by simpa using World.var?_cell je0 hv 0,.inr ⟨_,_,rfl⟩⟩
 · exact Lib.tabIs_of_head jiC (by kernel_rfl) Tryz.underlying295 Tryz.underlying250 (by kernel_rfl) (by kernel_rfl) h3
end Go.Proofs.YteoedoomhnnnoaaGreatDoor.Vec
namespace Go.Proofs.YteoedoomhnnnoaaGreatDoor
open Go.RowKit
abbrev PL:=List (ByteArray×ByteArray)
abbrev TL:=List (Int×ByteArray×ByteArray)
def jJ (prev:Option ByteArray) (s:ByteArray):Bool:=match prev with | none=>false | some p=>leS s p
def YZ (l:PL) (k:Nat):Option ByteArray:=if k=0 then none else (l[k-1]?).map (·.1)
def zJ:Option ByteArray→PL→Int
 | _,[]=>0
 | prev,x::t=>if (isName x.1&&isName x.2)=false then 3 else if jJ prev x.1=true then 13 else zJ (some x.1) t
def zF (l:PL):Int:=if 8<l.length then 4 else zJ none l
theorem YT {l:PL} {k:Nat} (h:k=0) (s:ByteArray):jJ (YZ l k) s=false:=by unfold YZ;rw[if_pos h];rfl
theorem YU {l:PL} {k:Nat} {x y:ByteArray} (h:¬k=0) (hx:l[k-1]?=some (x,y)) (s:ByteArray):jJ (YZ l k) s=leS s x:=by unfold YZ;rw[if_neg h,hx];rfl
theorem Xf {l:PL} {k:Nat} {x y:ByteArray} (hx:l[k]?=some (x,y)):YZ l (k+1)=some x:=by unfold YZ;rw[if_neg (by omega),Nat.add_sub_cancel,hx];rfl
theorem Y5 {p:Option ByteArray} {x y:ByteArray} {t:PL} (n:(isName x&&isName y)=false):zJ p ((x,y)::t)=3:=by rw[zJ,if_pos n]
theorem X6 {p:Option ByteArray} {x y:ByteArray} {t:PL} (n1:isName x=true) (n2:isName y=true) (b:jJ p x=true):zJ p ((x,y)::t)=13:=by
 rw[zJ,if_neg (by dsimp only;rw[n1,n2];decide),if_pos b]
theorem Ye {p:Option ByteArray} {x y:ByteArray} {t:PL} (n1:isName x=true) (n2:isName y=true) (b:jJ p x=false):zJ p ((x,y)::t)=zJ (some x) t:=by
 rw[zJ,if_neg (by dsimp only;rw[n1,n2];decide),if_neg (by dsimp only;rw[b];decide)]
theorem qX (a:Option Addr) (len cap:Nat) (l:PL) (w:World) (hr:jr js w a len l) :
 Calls Tryz.prog 240 #[.slice a len cap] w fun e w'=>e=.returned (.int .i64 (zF l))∧Kept w w':=by
 have hl:=hr.1;have hm:=hr.2.1;unfold maxLen at hm;by_cases h8:len≤8
 · have HV:=lH (show zF l=zJ none l by unfold zF;rw[if_neg (by omega)]);rcases hr.form with h0 | ⟨b,off,rfl⟩
   · subst h0;have HE:=lH (show zF l=0 by rw[HV.out];rw[List.eq_nil_of_length_eq_zero hl];rfl);clear hr hl;go_enter Tryz.func240,Tryz.ntmps240;go_wp2;refine wp_loop_rounds 1 ?_;rw[rounds_succ];go_wp2;go_ret;exact⟨jb HE.out.symm,Kept.refl _⟩
   · have HR:=lH hr;have HL:=lH hl;clear hr hl;go_enter Tryz.func240,Tryz.ntmps240;go_wp2;go_loopw [10] (fun i wr=>∃k:Nat,k≤len∧i=.int .i64 k∧zJ (YZ l k) (l.drop k)=zJ none l∧Kept w wr) (fun i _=>len-(intOf i).toNat)
     case atStart=>exact⟨0,Nat.zero_le _,rfl,rfl,Kept.refl _⟩
     case round =>
      obtain⟨k,hk,rfl,hrest,hK⟩:=hrel;by_cases hlt:k<len
      · obtain⟨x,y,hx,hd,hb,hz,hz2,c1,c2⟩:=(HR.out.kept hK).pair hlt;have HX:=lH hx;have HK:=lH hK;have HT:=lH (hrest.symm.trans (congrArg (zJ (YZ l k)) hd));have HS:=lH (HV.out.trans HT.out);clear hK hrest hx hd;by_cases n1:isName x=true
        · by_cases n2:isName y=true
          · have N1:=lH n1;have N2:=lH n2;by_cases h0:k=0
            · have hd:decide (0<k)=false:=by subst h0;decide
              have HP:=lH (YT (l:=l) h0 x);clear h0;go_wp2_with (go_at_call 246;refine(zk _ _ (by assumption)).mono ?_;rintro e w' ⟨rfl,rfl⟩)
              go_quiet (fail)
              go_wp2;go_roundw
              case rel=>exact⟨k+1,by omega,by go_num,by rw[Xf HX.out];exact(Ye N1.out N2.out HP.out).symm.trans HT.out.symm,(HK.out.trans (Zb _ _ _))⟩
              case measure=>simp[intOf];omega
            · have hd:decide (0<k)=true:=by simp;omega
              have g1:0≤(k:Int)-1:=by omega
              have g2:(k:Int)-1<(len:Int):=by omega
              have g3:((k:Int)-1).toNat=k-1:=by omega
              obtain⟨px,py,hpx,_,_,_,_,d1,d2⟩:=(HR.out.kept HK.out).pair (show k-1<len by omega);have HP:=lH (YU (l:=l) h0 hpx x);clear hpx;by_cases n3:leS x px=true
              · have n3':(Op.bytesLess x.toList px.toList||x.toList==px.toList)=true:=n3;have N3:=lH n3;clear n3;go_wp2_with (go_at_call 246;refine(zk _ _ (by assumption)).mono ?_;rintro e w' ⟨rfl,rfl⟩)
                go_quiet (fail)
                go_wp2;go_ret;exact⟨jb (HS.out.trans (X6 N1.out N2.out (HP.out.trans N3.out))).symm,(HK.out.trans (Zb _ _ _))⟩
              · have n3:leS x px=false:=by simpa using n3
                have n3':(Op.bytesLess x.toList px.toList||x.toList==px.toList)=false:=n3;have N3:=lH n3;clear n3;go_wp2_with (go_at_call 246;refine(zk _ _ (by assumption)).mono ?_;rintro e w' ⟨rfl,rfl⟩)
                go_quiet (fail)
                go_wp2;go_roundw
                case rel=>exact⟨k+1,by omega,by go_num,by rw[Xf HX.out];exact(Ye N1.out N2.out (HP.out.trans N3.out)).symm.trans HT.out.symm,(HK.out.trans (Zb _ _ _))⟩
                case measure=>simp[intOf];omega
          · have n2:isName y=false:=by simpa using n2
            have N:=lH (show (isName x&&isName y)=false by rw[n2,Bool.and_false]);go_wp2_with (go_at_call 246;refine(zk _ _ (by assumption)).mono ?_;rintro e w' ⟨rfl,rfl⟩)
            go_ret;exact⟨jb (HS.out.trans (Y5 N.out)).symm,HK.out.trans (ja _ _)⟩
        · have n1:isName x=false:=by simpa using n1
          have N:=lH (show (isName x&&isName y)=false by rw[n1,Bool.false_and]);go_wp2_with (go_at_call 246;refine(zk x _ hz).mono ?_;rintro e w' ⟨rfl,rfl⟩)
          go_ret;exact⟨jb (HS.out.trans (Y5 N.out)).symm,HK.out.trans (ja _ _)⟩
      · have HK:=lH hK;have HS:=lH ((HV.out.trans hrest.symm).trans (congrArg (zJ (YZ l k)) (JR (by rw[HL.out];exact hlt))));clear hK hrest;go_wp2;go_ret;exact⟨jb (HS.out.trans rfl).symm,HK.out⟩
 · have HV:=lH (show zF l=4 by unfold zF;rw[if_pos (by omega)]);have h9:8<len:=by omega
   clear h8 hr hl;go_enter Tryz.func240,Tryz.ntmps240;go_wp2;go_ret;exact⟨jb HV.out.symm,Kept.refl _⟩
abbrev TV (o:Int) (x y:ByteArray):Value:=.agg #[.int .i64 o,.string x,.string y]
def Jb (t:Int×ByteArray×ByteArray):Int :=
 if t.1=1∨t.1=2 then (if (isName t.2.1&&isName t.2.2)=true then 0 else 3)
 else if t.1=3∨t.1=4 then (if (isName t.2.1&&eqS t.2.2 ByteArray.empty)=true then 0 else 3)
 else 1
def JH:TL→Int
 | []=>0
 | t::r=>if Jb t≠0 then Jb t else JH r
def zg (l:TL):Int:=if 8<l.length then 4 else JH l
theorem jkB (w:World):Calls Tryz.prog 322 #[.bool true] w fun e w'=>e=.returned (.int .i64 0)∧w=w':=by
 go_enter Tryz.func322,Tryz.ntmps322;go_wp2;go_ret;exact⟨rfl,rfl⟩
theorem jca (w:World):Calls Tryz.prog 322 #[.bool false] w fun e w'=>e=.returned (.int .i64 3)∧w=w':=by
 go_enter Tryz.func322,Tryz.ntmps322;go_wp2;go_ret;exact⟨rfl,rfl⟩
theorem J8 {o:Int} {x y:ByteArray}:Jb (o,x,y)=if o=1∨o=2 then (if (isName x&&isName y)=true then 0 else 3)
 else if o=3∨o=4 then (if (isName x&&eqS y ByteArray.empty)=true then 0 else 3) else 1:=rfl
theorem jjv (o:Int) (x y:ByteArray) (w:World) (ho:o=1∨o=2) (hx:x.size≤maxLen) (hy:y.size≤maxLen) :
 Calls Tryz.prog 296 #[TV o x y] w fun e w'=>e=.returned (.int .i64 (Jb (o,x,y)))∧Kept w w':=by
 by_cases n:(isName x&&isName y)=true
 · have HV:=lH (show Jb (o,x,y)=0 by rw[J8,if_pos ho,if_pos n]);have n1:isName x=true:=by rw[Bool.and_eq_true] at n;exact n.1
   have n2:isName y=true:=by rw[Bool.and_eq_true] at n;exact n.2
   clear n;rcases ho with rfl | rfl <;>
    (go_enter Tryz.func296,Tryz.ntmps296
     go_wp2_with (first | (go_at_call 246;refine(zk _ _ (by assumption)).mono ?_;rintro e w' ⟨rfl,rfl⟩) | (go_at_call 322;refine(jkB _).mono ?_;rintro e w' ⟨rfl,rfl⟩))
     go_ret;exact⟨jb HV.out.symm,ja _ _⟩)
 · have HV:=lH (show Jb (o,x,y)=3 by rw[J8,if_pos ho,if_neg n]);by_cases n1:isName x=true
   · have n2:isName y=false:=by rw[n1,Bool.true_and] at n;simpa using n
     clear n;rcases ho with rfl | rfl <;>
      (go_enter Tryz.func296,Tryz.ntmps296
       go_wp2_with (first | (go_at_call 246;refine(zk _ _ (by assumption)).mono ?_;rintro e w' ⟨rfl,rfl⟩) | (go_at_call 322;refine(jca _).mono ?_;rintro e w' ⟨rfl,rfl⟩))
       go_ret;exact⟨jb HV.out.symm,ja _ _⟩)
   · have n1:isName x=false:=by simpa using n1
     clear n;rcases ho with rfl | rfl <;>
      (go_enter Tryz.func296,Tryz.ntmps296
       go_wp2_with (first | (go_at_call 246;refine(zk _ _ (by assumption)).mono ?_;rintro e w' ⟨rfl,rfl⟩) | (go_at_call 322;refine(jca _).mono ?_;rintro e w' ⟨rfl,rfl⟩))
       go_ret;exact⟨jb HV.out.symm,ja _ _⟩)
theorem jlA (o:Int) (x y:ByteArray) (w:World) (ho:o=3∨o=4) (hx:x.size≤maxLen) (hy:y.size≤maxLen) :
 Calls Tryz.prog 296 #[TV o x y] w fun e w'=>e=.returned (.int .i64 (Jb (o,x,y)))∧Kept w w':=by
 have ho':¬(o=1∨o=2):=by omega
 by_cases n:(isName x&&eqS y ByteArray.empty)=true
 · have HV:=lH (show Jb (o,x,y)=0 by rw[J8,if_neg ho',if_pos ho,if_pos n]);have n1:isName x=true:=by rw[Bool.and_eq_true] at n;exact n.1
   have n2:(y.toList==([]:List UInt8))=true:=by rw[Bool.and_eq_true] at n;have:=n.2;unfold eqS at this;simpa using this
   clear n ho';rcases ho with rfl | rfl <;>
    (go_enter Tryz.func296,Tryz.ntmps296
     go_wp2_with (first | (go_at_call 246;refine(zk _ _ (by assumption)).mono ?_;rintro e w' ⟨rfl,rfl⟩) | (go_at_call 322;refine(jkB _).mono ?_;rintro e w' ⟨rfl,rfl⟩))
     go_ret;exact⟨jb HV.out.symm,ja _ _⟩)
 · have HV:=lH (show Jb (o,x,y)=3 by rw[J8,if_neg ho',if_pos ho,if_neg n]);clear ho';by_cases n1:isName x=true
   · have n2:(y.toList==([]:List UInt8))=false:=by rw[n1,Bool.true_and] at n;unfold eqS at n;simpa using n
     clear n;rcases ho with rfl | rfl <;>
      (go_enter Tryz.func296,Tryz.ntmps296
       go_wp2_with (first | (go_at_call 246;refine(zk _ _ (by assumption)).mono ?_;rintro e w' ⟨rfl,rfl⟩) | (go_at_call 322;refine(jca _).mono ?_;rintro e w' ⟨rfl,rfl⟩))
       go_ret;exact⟨jb HV.out.symm,ja _ _⟩)
   · have n1:isName x=false:=by simpa using n1
     clear n;rcases ho with rfl | rfl <;>
      (go_enter Tryz.func296,Tryz.ntmps296
       go_wp2_with (first | (go_at_call 246;refine(zk _ _ (by assumption)).mono ?_;rintro e w' ⟨rfl,rfl⟩) | (go_at_call 322;refine(jca _).mono ?_;rintro e w' ⟨rfl,rfl⟩))
       go_ret;exact⟨jb HV.out.symm,ja _ _⟩)
theorem jjp (o:Int) (x y:ByteArray) (w:World) (ho:¬(o=1∨o=2)) (ho':¬(o=3∨o=4)) :
 Calls Tryz.prog 296 #[TV o x y] w fun e w'=>e=.returned (.int .i64 (Jb (o,x,y)))∧Kept w w':=by
 have HV:=lH (show Jb (o,x,y)=1 by rw[J8,if_neg ho,if_neg ho']);have e1:(o==1)=false:=by (have:o≠1:=by omega);simpa using this
 have e2:(o==2)=false:=by (have:o≠2:=by omega);simpa using this
 have e3:(o==3)=false:=by (have:o≠3:=by omega);simpa using this
 have e4:(o==4)=false:=by (have:o≠4:=by omega);simpa using this
 clear ho ho';go_enter Tryz.func296,Tryz.ntmps296;go_wp2;go_ret;exact⟨jb HV.out.symm,ja _ _⟩
theorem jbb (o:Int) (x y:ByteArray) (w:World) (hx:x.size≤maxLen) (hy:y.size≤maxLen) :
 Calls Tryz.prog 296 #[TV o x y] w fun e w'=>e=.returned (.int .i64 (Jb (o,x,y)))∧Kept w w':=by
 by_cases h1:o=1∨o=2
 · exact jjv o x y w h1 hx hy
 · by_cases h2:o=3∨o=4
   · exact jlA o x y w h2 hx hy
   · exact jjp o x y w h1 h2
theorem ja6 (t:Int×ByteArray×ByteArray) (r:TL):JH (t::r)=if Jb t≠0 then Jb t else JH r:=rfl
theorem jbG (a:Option Addr) (len cap:Nat) (l:TL) (w:World) (hr:jr jK w a len l) :
 Calls Tryz.prog 254 #[.slice a len cap] w fun e w'=>e=.returned (.int .i64 (zg l))∧Kept w w':=by
 have hl:=hr.1;have hm:=hr.2.1;unfold maxLen at hm;by_cases h8:len≤8
 · have HV:=lH (show zg l=JH l by unfold zg;rw[if_neg (by omega)]);rcases hr.form with h0 | ⟨b,off,rfl⟩
   · subst h0;have HE:=lH (show zg l=0 by rw[HV.out];rw[List.eq_nil_of_length_eq_zero hl];rfl);clear hr hl;go_enter Tryz.func254,Tryz.ntmps254;go_wp2;refine wp_loop_rounds 1 ?_;rw[rounds_succ];go_wp2;go_ret;exact⟨jb HE.out.symm,Kept.refl _⟩
   · have HR:=lH hr;have HL:=lH hl;clear hr hl;go_enter Tryz.func254,Tryz.ntmps254;go_wp2;go_loopw [11] (fun i wr=>∃k:Nat,k≤len∧i=.int .i64 k∧JH (l.drop k)=JH l∧Kept w wr) (fun i _=>len-(intOf i).toNat)
     case atStart=>exact⟨0,Nat.zero_le _,rfl,rfl,Kept.refl _⟩
     case round =>
      obtain⟨k,hk,rfl,hrest,hK⟩:=hrel;by_cases hlt:k<len
      · obtain⟨o,x,y,hx,hd,hb,ho,hz,hz2,c1,c2,c3⟩:=(HR.out.kept hK).term hlt;have HK:=lH hK;have HT:=lH (hrest.symm.trans ((congrArg JH hd).trans (ja6 _ _)));have HS:=lH (HV.out.trans HT.out);clear hK hrest hx hd;by_cases n:Jb (o,x,y)=0
        · have N:=lH n;have n':(Jb (o,x,y) != 0)=false:=by simpa using n
          clear n;go_wp2_with (go_at_call 296;refine(jbb o x y _ hz hz2).mono ?_;rintro e w1 ⟨rfl,k1⟩;have K1:=lH k1;clear k1)
          go_roundw
          case rel=>exact⟨k+1,by omega,by go_num,(HT.out.trans (if_neg (by rw[N.out];decide))).symm,HK.out.trans ((ja _ _).trans K1.out)⟩
          case measure=>simp[intOf];omega
        · have N:=lH n;have n':(Jb (o,x,y) != 0)=true:=by simpa using n
          clear n;go_wp2_with (go_at_call 296;refine(jbb o x y _ hz hz2).mono ?_;rintro e w1 ⟨rfl,k1⟩;have K1:=lH k1;clear k1)
          go_ret;exact⟨jb (HS.out.trans (if_pos N.out)).symm,HK.out.trans ((ja _ _).trans K1.out)⟩
      · have HK:=lH hK;have HS:=lH ((HV.out.trans hrest.symm).trans (congrArg JH (JR (by rw[HL.out];exact hlt))));clear hK hrest;go_wp2;go_ret;exact⟨jb (HS.out.trans rfl).symm,HK.out⟩
 · have HV:=lH (show zg l=4 by unfold zg;rw[if_pos (by omega)]);have h9:8<len:=by omega
   clear h8 hr hl;go_enter Tryz.func254,Tryz.ntmps254;go_wp2;go_ret;exact⟨jb HV.out.symm,Kept.refl _⟩
abbrev NT:=ByteArray×ByteArray×Bool
abbrev NL:=List NT
abbrev NV (x y:ByteArray) (b:Bool):Value:=.agg #[.string x,.string y,.bool b]
theorem jam (x y:ByteArray) (b:Bool) (u:Value) (h:u ∈ [Value.string x,Value.string y,Value.bool b]):u.oneCell'=true:=by
 have e:u=Value.string x∨u=Value.string y∨u=Value.bool b:=by simpa using h
 rcases e with e | e | e<;>rw[e]<;>rfl
def jq:Lay NT:={ m:=3,cs:=fun x=>[.string x.1,.string x.2.1,.bool x.2.2],fine:=fun x=>x.1.size≤maxLen∧x.2.1.size≤maxLen,len:=fun _=>rfl,one:=fun x=>jam x.1 x.2.1 x.2.2,pos:=by decide }
theorem jr.tri {w:World} {b off len:Nat} {l:NL} {k:Nat} (h:jr jq w (some ⟨b,off,none⟩) len l) (hk:k<len) :
 ∃(x y:ByteArray) (m:Bool),l[k]?=some (x,y,m)∧l.drop k=(x,y,m)::l.drop (k+1)∧b<w.heap.size∧x.size≤maxLen∧y.size≤maxLen ∧
  w.cell? ⟨b,off+k*3,none⟩=some (.string x)∧w.cell? ⟨b,off+k*3+1,none⟩=some (.string y)∧w.cell? ⟨b,off+k*3+2,none⟩=some (.bool m):=by
 obtain⟨⟨x,y,m⟩,h1,h2,h3,h4,h5⟩:=h.cells hk;exact⟨x,y,m,h1,h2,h3,h4.1,h4.2,h5 0 _ rfl,h5 1 _ rfl,h5 2 _ rfl⟩
def Jv (t z:NT):Bool:=eqS z.1 t.1&&eqS z.2.1 t.2.1
def JF:NL→NL→Int
 | _,[]=>0
 | pre,x::t=>if (isName x.1&&isName x.2.1)=false then 3 else if pre.any (Jv x)=true then 6 else JF (pre++[x]) t
def Jg (l:NL):Int:=if 8<l.length then 4 else JF [] l
theorem qU {pre:NL} {x:NT} {t:NL} (n:(isName x.1&&isName x.2.1)=false):JF pre (x::t)=3:=by rw[JF,if_pos n]
theorem jdx {pre:NL} {x:NT} {t:NL} (n1:isName x.1=true) (n2:isName x.2.1=true) (b:pre.any (Jv x)=true):JF pre (x::t)=6:=by
 rw[JF,if_neg (by rw[n1,n2];decide),if_pos b]
theorem jeC {pre:NL} {x:NT} {t:NL} (n1:isName x.1=true) (n2:isName x.2.1=true) (b:pre.any (Jv x)=false):JF pre (x::t)=JF (pre++[x]) t:=by
 rw[JF,if_neg (by rw[n1,n2];decide),if_neg (by rw[b];decide)]
def Zj (s:ByteArray):Bool:=eqS s ByteArray.empty
def zl (x:NT):Bool:=(Zj x.1||isName x.1)&&(if x.2.2=true then Zj x.2.1 else isName x.2.1)
def zy (l:NL):Int:=if 8<l.length then 4 else if l.all zl=true then 0 else 3
theorem ZY {s:ByteArray}:Zj s=(s.toList==([]:List UInt8)):=by
 unfold Zj eqS;rw[show ByteArray.empty.toList=([]:List UInt8) from by rw[Lib.toList_data];rfl]
theorem YD (v:Value) (w:World):Calls Tryz.prog 188 #[v,.int .i64 0] w fun e w'=>e=.returned v∧w=w':=by
 go_enter Tryz.func188,Tryz.ntmps188;go_wp2;go_ret;exact⟨rfl,rfl⟩
theorem jdg (v:Value) (x:Int) (w:World) (h:x≠0):Calls Tryz.prog 188 #[v,.int .i64 x] w fun e w'=>e=.panicked [ju x]∧w=w':=by
 have h3:(x != 0)=true:=by simpa using h
 clear h;go_enter Tryz.func188,Tryz.ntmps188;go_wp2;exact⟨rfl,rfl,rfl⟩
theorem Z7 (v:Value) (w:World):Calls Tryz.prog 190 #[v,.int .i64 0] w fun e w'=>e=.returned v∧w=w':=by
 go_enter Tryz.func190,Tryz.ntmps190;go_wp2;go_ret;exact⟨rfl,rfl⟩
theorem jjc (v:Value) (x:Int) (w:World) (h:x≠0):Calls Tryz.prog 190 #[v,.int .i64 x] w fun e w'=>e=.panicked [ju x]∧w=w':=by
 have h3:(x != 0)=true:=by simpa using h
 clear h;go_enter Tryz.func190,Tryz.ntmps190;go_wp2;exact⟨rfl,rfl,rfl⟩
theorem jbf (v:Value) (w:World):Calls Tryz.prog 203 #[v,.int .i64 0] w fun e w'=>e=.returned v∧w=w':=by
 go_enter Tryz.func203,Tryz.ntmps203;go_wp2;go_ret;exact⟨rfl,rfl⟩
theorem jje (v:Value) (x:Int) (w:World) (h:x≠0):Calls Tryz.prog 203 #[v,.int .i64 x] w fun e w'=>e=.panicked [ju x]∧w=w':=by
 have h3:(x != 0)=true:=by simpa using h
 clear h;go_enter Tryz.func203,Tryz.ntmps203;go_wp2;exact⟨rfl,rfl,rfl⟩
theorem ZG (v:Value) (w:World):Calls Tryz.prog 192 #[v,.int .i64 0] w fun e w'=>e=.returned v∧w=w':=by
 go_enter Tryz.func192,Tryz.ntmps192;go_wp2;go_ret;exact⟨rfl,rfl⟩
theorem jjH (v:Value) (x:Int) (w:World) (h:x≠0):Calls Tryz.prog 192 #[v,.int .i64 x] w fun e w'=>e=.panicked [ju x]∧w=w':=by
 have h3:(x != 0)=true:=by simpa using h
 clear h;go_enter Tryz.func192,Tryz.ntmps192;go_wp2;exact⟨rfl,rfl,rfl⟩
theorem jeN (v:Value) (w:World):Calls Tryz.prog 205 #[v,.int .i64 0] w fun e w'=>e=.returned v∧w=w':=by
 go_enter Tryz.func205,Tryz.ntmps205;go_wp2;go_ret;exact⟨rfl,rfl⟩
theorem ji8 (v:Value) (x:Int) (w:World) (h:x≠0):Calls Tryz.prog 205 #[v,.int .i64 x] w fun e w'=>e=.panicked [ju x]∧w=w':=by
 have h3:(x != 0)=true:=by simpa using h
 clear h;go_enter Tryz.func205,Tryz.ntmps205;go_wp2;exact⟨rfl,rfl,rfl⟩
theorem J6 (c:UInt8) (p:List UInt8) (w:World) :
 Calls Tryz.prog 287 #[.string (bytes p),.string ⟨#[c]⟩] w fun e w'=>e=.returned (.int .i64 (Lib.countByte p c))∧w'=w:=Tryz.strings_Count_one (bytes p) c w
theorem jbo (c:UInt8) (p:List UInt8) (w:World) :
 Calls Tryz.prog 285 #[.string (bytes p),.string ⟨#[c]⟩] w fun e w'=>e=.returned (.bool (decide (0≤Lib.indexByte p c)))∧w'=w:=Tryz.strings_Contains_one (bytes p) c w
theorem ja9 (p q:List UInt8) (w:World) :
 Calls Tryz.prog 295 #[.string (bytes p),.string (bytes q)] w fun e w'=>e=.returned (.tuple #[.string (bytes (Lib.trimPrefix p q)),.bool (Lib.hasPrefix p q)])∧w'=w:=Tryz.strings_CutPrefix (bytes p) (bytes q) w
def JJ (p:List UInt8):ByteArray×ByteArray:=(bytes (Lib.cut p [58]).1,bytes (Lib.cut p [58]).2.1)
def ZE (p:List UInt8):Bool:=!(Lib.cut p [58]).2.2||decide (0≤Lib.indexByte (Lib.cut p [58]).2.1 58)
theorem jm5 (p:List UInt8) (w:World) (hE:Env w) (hp:p.length≤1000000) (h:ZE p=false) :
 Calls Tryz.prog 239 #[.string (bytes p)] w fun e w'=>e=.returned (.agg #[.string (JJ p).1,.string (JJ p).2])∧Kept w w':=by
 have HE:=lH hE;unfold ZE at h;rw[Bool.or_eq_false_iff] at h;have h1:(Lib.cut p [58]).2.2=true:=by simpa using h.1
 have h2:=h.2;clear hE h;obtain⟨a,ha⟩:∃a,(Lib.cut p [58]).1=a:=⟨_,rfl⟩
 obtain⟨b,hb⟩:∃b,(Lib.cut p [58]).2.1=b:=⟨_,rfl⟩
 have HV:=lH (show (JJ p).1=bytes a∧(JJ p).2=bytes b by unfold JJ;rw[ha,hb];exact⟨rfl,rfl⟩);rw[hb] at h2;have HC:=lH (fun W (hW:Env W)=>JC 58 p W hW hp);rw[h1,ha,hb] at HC;clear ha hb h1;rw[HV.out.1,HV.out.2];go_enter Tryz.func239,Tryz.ntmps239;go_wp2_with (first | (go_at_call 113;refine(HC.out _ (HE.out.kept (ja _ _))).mono ?_;rintro e w' ⟨rfl,n,rfl⟩) | (go_at_call 285;refine(jbo 58 b _).mono ?_;rintro e w' ⟨rfl,rfl⟩))
 (try simp only[Exit.inBlock,Exit.then])
 refine bodyPost_ret (v:=.agg #[.string (bytes a),.string (bytes b)]) (by simp[results,Tryz.results239,go_sem]) rfl ?_;exact⟨rfl,zG (zG ((ja _ _).trans (Kept.drewN _ _)) (Nat.le_refl _) _) (Nat.le_refl _) _⟩
theorem jl5 (p:List UInt8) (w:World) (hE:Env w) (hp:p.length≤1000000) (h:ZE p=true) :
 Calls Tryz.prog 239 #[.string (bytes p)] w fun e w'=>e=.panicked [ju 2]∧Kept w w':=by
 have HE:=lH hE;unfold ZE at h;clear hE;obtain⟨a,ha⟩:∃a,(Lib.cut p [58]).1=a:=⟨_,rfl⟩
 obtain⟨b,hb⟩:∃b,(Lib.cut p [58]).2.1=b:=⟨_,rfl⟩
 obtain⟨q,hq⟩:∃q,(Lib.cut p [58]).2.2=q:=⟨_,rfl⟩
 rw[hb,hq] at h;have HC:=lH (fun W (hW:Env W)=>JC 58 p W hW hp);rw[hq,ha,hb] at HC;clear ha hb hq
 cases q with
 | false =>
  clear h;go_enter Tryz.func239,Tryz.ntmps239;go_wp2_with (go_at_call 113;refine(HC.out _ (HE.out.kept (ja _ _))).mono ?_;rintro e w' ⟨rfl,n,rfl⟩)
  exact⟨rfl,rfl,(ja _ _).trans (Kept.drewN _ _)⟩
 | true =>
  have h2:decide (0≤Lib.indexByte b 58)=true:=by simpa using h
  clear h;go_enter Tryz.func239,Tryz.ntmps239;go_wp2_with (first | (go_at_call 113;refine(HC.out _ (HE.out.kept (ja _ _))).mono ?_;rintro e w' ⟨rfl,n,rfl⟩) | (go_at_call 285;refine(jbo 58 b _).mono ?_;rintro e w' ⟨rfl,rfl⟩))
  exact⟨rfl,rfl,(ja _ _).trans (Kept.drewN _ _)⟩
def Jm (p:List UInt8):Nat:=Lib.countByte p 58+Lib.countByte p 33
def zC (p:List UInt8):Int×ByteArray×ByteArray :=
 if Lib.hasPrefix p [45]=true then (4,bytes (Lib.trimPrefix p [45]),ByteArray.empty)
 else if Jm p=0 then (3,bytes p,ByteArray.empty)
 else if (Lib.cut p [58]).2.2=true then (1,bytes (Lib.cut p [58]).1,bytes (Lib.cut p [58]).2.1)
 else (2,bytes (Lib.cut p [33]).1,bytes (Lib.cut p [33]).2.1)
def JS (p:List UInt8):Bool:=decide (p=[])||decide (1<Jm p)||(decide (Jm p=1)&&Lib.hasPrefix p [45])
theorem jnC (p:List UInt8) (w:World) (hE:Env w) (hp:p.length≤1000000) (h:JS p=false) :
 Calls Tryz.prog 253 #[.string (bytes p)] w fun e w'=>e=.returned (TV (zC p).1 (zC p).2.1 (zC p).2.2)∧Kept w w':=by
 have HE:=lH hE;unfold JS at h;rw[Bool.or_eq_false_iff,Bool.or_eq_false_iff] at h;obtain⟨⟨h0,h1⟩,h2⟩:=h;have e0:((bytes p).toList==([]:List UInt8))=false:=by rw[jn];simpa using h0
 have h1:¬1<Jm p:=by simpa using h1
 have hA:=count_le p 58;have hB:=count_le p 33;have HP:=lH (fun W=>ja9 p [45] W);clear hE h0;obtain⟨A,eA⟩:∃A,Lib.countByte p 58=A:=⟨_,rfl⟩
 obtain⟨B,eB⟩:∃B,Lib.countByte p 33=B:=⟨_,rfl⟩
 have eS:Jm p=A+B:=by unfold Jm;rw[eA,eB]
 rw[eA] at hA;rw[eB] at hB;rw[eS] at h1 h2;by_cases hf:Lib.hasPrefix p [45]=true
 · have hs:A+B=0:=by
    rw[hf,Bool.and_true] at h2;have:¬A+B=1:=by simpa using h2
    omega
   have HV:=lH (show zC p=(4,bytes (Lib.trimPrefix p [45]),ByteArray.empty) by unfold zC;rw[if_pos hf]);obtain⟨rfl,rfl⟩:A=0∧B=0:=by omega
   rw[hf] at HP;clear h1 h2 eS hA hB hf hs;rw[HV.out];go_enter Tryz.func253,Tryz.ntmps253;go_wp2_with (first | (go_at_call 287;refine(J6 _ p _).mono ?_;rintro e w' ⟨rfl,rfl⟩) | (go_at_call 295;refine(HP.out _).mono ?_;rintro e w' ⟨rfl,rfl⟩))
   (try simp only[Exit.inBlock,Exit.then])
   refine bodyPost_ret (v:=TV 4 (bytes (Lib.trimPrefix p [45])) ⟨#[]⟩) (by simp[results,Tryz.results253,go_sem]) rfl ?_;exact⟨rfl,ja _ _⟩
 · have hf:Lib.hasPrefix p [45]=false:=by simpa using hf
   have HG:=lH hf;rw[hf] at HP;clear h2 hf;by_cases hs:A+B=0
   · have HV:=lH (show zC p=(3,bytes p,ByteArray.empty) by unfold zC;rw[if_neg (by rw[HG.out];decide),if_pos (eS.trans hs)]);obtain⟨rfl,rfl⟩:A=0∧B=0:=by omega
     clear h1 eS hA hB hs;rw[HV.out];go_enter Tryz.func253,Tryz.ntmps253;go_wp2_with (first | (go_at_call 287;refine(J6 _ p _).mono ?_;rintro e w' ⟨rfl,rfl⟩) | (go_at_call 295;refine(HP.out _).mono ?_;rintro e w' ⟨rfl,rfl⟩))
     (try simp only[Exit.inBlock,Exit.then])
     refine bodyPost_ret (v:=TV 3 (bytes p) ⟨#[]⟩) (by simp[results,Tryz.results253,go_sem]) rfl ?_;exact⟨rfl,ja _ _⟩
   · have hs1:A+B=1:=by omega
     have hN:¬Jm p=0:=by omega
     have hw:IntKind.i64.wrap ((A:Int)+(B:Int))=1:=by rw[show (A:Int)+(B:Int)=1 by omega];rfl
     have hab:(A:Int)+(B:Int)=1:=by omega
     by_cases hc:(Lib.cut p [58]).2.2=true
     · have HV:=lH (show zC p=(1,bytes (Lib.cut p [58]).1,bytes (Lib.cut p [58]).2.1) by unfold zC;rw[if_neg (by rw[HG.out];decide),if_neg hN,if_pos hc]);clear h1 eS hA hB hs hs1 hN;rw[HV.out];go_enter Tryz.func253,Tryz.ntmps253;go_wp2_with (first | (go_at_call 287;refine(J6 _ p _).mono ?_;rintro e w' ⟨rfl,rfl⟩) | (go_at_call 295;refine(HP.out _).mono ?_;rintro e w' ⟨rfl,rfl⟩) | (go_at_call 113;refine(JC _ p _ (HE.out.kept (ja _ _)) hp).mono ?_;rintro e w' ⟨rfl,n,rfl⟩))
       (try simp only[Exit.inBlock,Exit.then])
       refine bodyPost_ret (v:=TV 1 (bytes (Lib.cut p [58]).1) (bytes (Lib.cut p [58]).2.1)) (by simp[results,Tryz.results253,go_sem]) rfl ?_;exact⟨rfl,zG (zG (zG ((ja _ _).trans (Kept.drewN _ _)) (Nat.le_refl _) _) (Nat.le_refl _) _) (Nat.le_refl _) _⟩
     · have hc:(Lib.cut p [58]).2.2=false:=by simpa using hc
       have HV:=lH (show zC p=(2,bytes (Lib.cut p [33]).1,bytes (Lib.cut p [33]).2.1) by unfold zC;rw[if_neg (by rw[HG.out];decide),if_neg hN,if_neg (by rw[hc];decide)]);clear h1 eS hA hB hs hs1 hN;rw[HV.out];go_enter Tryz.func253,Tryz.ntmps253;go_wp2_with (first | (go_at_call 287;refine(J6 _ p _).mono ?_;rintro e w' ⟨rfl,rfl⟩) | (go_at_call 295;refine(HP.out _).mono ?_;rintro e w' ⟨rfl,rfl⟩) | (go_at_call 113;refine(JC _ p _ (by first | exact HE.out.kept (ja _ _) | exact HE.out.kept ((ja _ _).trans (Kept.drewN _ _))) hp).mono ?_;rintro e w' ⟨rfl,n,rfl⟩))
       (try simp only[Exit.inBlock,Exit.then])
       refine bodyPost_ret (v:=TV 2 (bytes (Lib.cut p [33]).1) (bytes (Lib.cut p [33]).2.1)) (by simp[results,Tryz.results253,go_sem]) rfl ?_;exact⟨rfl,zG (zG (zG (by first | exact(ja _ _).trans (Kept.drewN _ _) | exact((ja _ _).trans (Kept.drewN _ _)).trans (Kept.drewN _ _)) (Nat.le_refl _) _) (Nat.le_refl _) _) (Nat.le_refl _) _⟩
theorem jmt (p:List UInt8) (w:World) (hE:Env w) (hp:p.length≤1000000) (h:JS p=true) :
 Calls Tryz.prog 253 #[.string (bytes p)] w fun e w'=>e=.panicked [ju 2]∧Kept w w':=by
 unfold JS at h;have hA:=count_le p 58;have hB:=count_le p 33;have HP:=lH (fun W=>ja9 p [45] W);obtain⟨A,eA⟩:∃A,Lib.countByte p 58=A:=⟨_,rfl⟩
 obtain⟨B,eB⟩:∃B,Lib.countByte p 33=B:=⟨_,rfl⟩
 have eS:Jm p=A+B:=by unfold Jm;rw[eA,eB]
 rw[eA] at hA;rw[eB] at hB;rw[eS] at h;clear hE eS;by_cases h0:p=[]
 · have e0:((bytes p).toList==([]:List UInt8))=true:=by rw[jn,h0];rfl
   clear h h0;go_enter Tryz.func253,Tryz.ntmps253;go_wp2_with (first | (go_at_call 287;refine(J6 _ p _).mono ?_;rintro e w' ⟨rfl,rfl⟩) | (go_at_call 295;refine(HP.out _).mono ?_;rintro e w' ⟨rfl,rfl⟩))
   exact⟨rfl,rfl,ja _ _⟩
 · have e0:((bytes p).toList==([]:List UInt8))=false:=by rw[jn];simpa using h0
   by_cases h1:1<A+B
   · have h1':(1:Int)<(A:Int)+(B:Int):=by omega
     clear h h0 h1;go_enter Tryz.func253,Tryz.ntmps253;go_wp2_with (first | (go_at_call 287;refine(J6 _ p _).mono ?_;rintro e w' ⟨rfl,rfl⟩) | (go_at_call 295;refine(HP.out _).mono ?_;rintro e w' ⟨rfl,rfl⟩))
     exact⟨rfl,rfl,ja _ _⟩
   · have h2:A+B=1∧Lib.hasPrefix p [45]=true:=by
      have e1:decide (p=[])=false:=by simpa using h0
      have e2:decide (1<A+B)=false:=by simpa using h1
      rw[e1,e2,Bool.false_or,Bool.false_or,Bool.and_eq_true] at h;exact⟨by simpa using h.1,h.2⟩
     obtain⟨hs,hf⟩:=h2;have hw:IntKind.i64.wrap ((A:Int)+(B:Int))=1:=by rw[show (A:Int)+(B:Int)=1 by omega];rfl
     have hab:(A:Int)+(B:Int)=1:=by omega
     rw[hf] at HP;clear h h0 h1 hs hf hA hB;go_enter Tryz.func253,Tryz.ntmps253;go_wp2_with (first | (go_at_call 287;refine(J6 _ p _).mono ?_;rintro e w' ⟨rfl,rfl⟩) | (go_at_call 295;refine(HP.out _).mono ?_;rintro e w' ⟨rfl,rfl⟩))
     exact⟨rfl,rfl,ja _ _⟩
open Go.RowKit Go.Shelf
attribute [local go_sem] Oper.semAt_some
theorem joZ:(Tryz.prog.info? 147).map (fun i=>(i.zero,i.size,i.bytes))=some (some (.agg #[.string ByteArray.empty,.string ByteArray.empty]),2,32):=by kernel_rfl
theorem jjo {p:List UInt8} (h:p.length≤1000000):js.fine (JJ p):=by
 have h1:=(Ym p [58]).1;have h2:=(Ym p [58]).2;unfold JJ;refine⟨?_,?_⟩
 · show (bytes _).size≤maxLen;rw[ji];unfold maxLen;omega
 · show (bytes _).size≤maxLen;rw[ji];unfold maxLen;omega
def Ja (s:List UInt8):=Js ZE JJ zF s
theorem jgx (w:World) :
 Calls Tryz.prog 238 #[.string (bytes [45]),.func (.func 239) #[] #[],.func (.func 240) #[] #[]] w (jw js 147 (Ja [45]) w.heap.size w):=by
 have e:((bytes [45]).toList==[45])=true:=by rw[jn];rfl
 go_enter Tryz.func238,Tryz.ntmps238;go_wp2;go_ret;exact jw.good rfl (Own.nil _ _ _) (ja _ _)
theorem jh9 (s:List UInt8) (w:World) (hE:Env w) (hs:s.length≤1000000) (hd:s≠[45]) :
 Calls Tryz.prog 238 #[.string (bytes s),.func (.func 239) #[] #[],.func (.func 240) #[] #[]] w (jw js 147 (Ja s) w.heap.size w):=by
 have hdash:((bytes s).toList==[45])=false:=by rw[jn];simpa using hd
 have HD0:=lH hd;clear hd;refine ZC (n:=6) Tryz.func238 rfl ?_;simp only[Tryz.ntmps238,List.size_toArray,List.length_cons,List.length_nil,Nat.reduceAdd,Nat.reduceSub,Array.replicate_succ,Array.replicate_zero,List.push_toArray,List.append_toArray,List.nil_append,List.cons_append];refine jR (j6 (n:=6) ?_);gi_wp2
 refine jR (j6 (n:=6) ?_);gi_wp2
 refine jR (j6 (n:=6) ?_);gi_wp2
 obtain⟨V0,hV0⟩:∃V0,(w.alloc (.cells #[.func (.func 239) #[] #[]] 305)).alloc (.cells #[.slice none 0 0] 47)=V0:=⟨_,rfl⟩
 have HV0S:=lH (show V0.heap.size=w.heap.size+2 by rw[←hV0];simp);have HV0K:=lH (show Kept w V0 by rw[←hV0];exact jk _ _ _);have HV0C:=lH (show V0.cell? ⟨w.heap.size+1,0,none⟩=some (.slice none 0 0)∧V0.frozen? ⟨w.heap.size+1,0,none⟩=false∧V0.cell? ⟨w.heap.size,0,none⟩=some (.func (.func 239) #[] #[]) by
  rw[←hV0];exact qJ w _ _ _ _)
 rw[hV0];clear hV0;have HE:=lH hE;have HPL:=lH (fun p (h:p ∈ partsOf s)=>Nat.le_trans (YG s p h) hs);have hcl:(bytes s).size≤281474976710656:=by rw[ji];omega
 clear hE;refine jR (jR (j6 (n:=6) ?_));gi_wp2_with (first | (refine⟨trivial,?_⟩;gi_at_call 187;refine(callsIn_wide.2 (Zm _ _ hcl)).mono ?_;rintro e w1 ⟨rfl,k1⟩;have K1:=lH k1;clear k1) | (refine⟨trivial,?_⟩;gi_at_call 279;refine(callsIn_wide.2 (ZW s _)).mono ?_;rintro e w2 ⟨rfl,rfl⟩))
 refine Yf ?_;obtain⟨m,hm⟩:∃m,w1.heap.size=m:=⟨_,rfl⟩
 have bc:=Yo w1 s;have bsz:=YR w1 s;rw[hm] at bc bsz ⊢;have HM:=lH hm;have hwm:w.heap.size+2≤m:=by rw[←hm,←HV0S.out];exact K1.out.size
 have HWM:=lH hwm;have HB0:=lH (show Below w.heap.size w (boxes w1 s) from HV0K.out.trans (K1.out.trans (Jr w1 s)));have HK0:=lH (show Kept V0 (boxes w1 s) from K1.out.trans (Jr w1 s));have HC0:=lH (show (boxes w1 s).cell? ⟨w.heap.size+1,0,none⟩=some (.slice none 0 0)∧(boxes w1 s).frozen? ⟨w.heap.size+1,0,none⟩=false∧(boxes w1 s).cell? ⟨w.heap.size,0,none⟩=some (.func (.func 239) #[] #[]) from
  ⟨cell_later HK0.out HV0C.out.1,(HK0.out.frozen (p:=⟨w.heap.size+1,0,none⟩) (by rw[HV0S.out];exact Nat.lt_succ_self _)).trans HV0C.out.2.1,cell_later HK0.out HV0C.out.2.2⟩)
 clear hm;refine YP (n:=6) Tryz.func238 (by decide) (m+1) m (m+2) rfl s hs (by omega) (by omega) (by omega) (by omega) (by omega) bc.1 bc.2.1 bc.2.2.1 bc.2.2.2
  (fun k W'=>Below w.heap.size w W'∧(∀p ∈ (partsOf s).take k,ZE p=false)∧W'.cell? ⟨w.heap.size,0,none⟩=some (.func (.func 239) #[] #[])∧X7 js 147 (m+5) (w.heap.size+1) (zN JJ (partsOf s) k) W')
  (fun c W'=>c=[ju 2]∧Below w.heap.size w W'∧(partsOf s).any ZE=true)
  (fun k W1 W2 h st=>⟨Below.st h.1 st (by omega) (by omega),h.2.1,jb4 h.2.2.1 st (by omega) (by omega),h.2.2.2.st st (by omega) (by omega) (by omega)⟩) (fun k W' h=>HE.out.kept h.1) ⟨HB0.out,by simp,HC0.out.2.2,⟨_,HC0.out.1,HC0.out.2.1,Own.nil _ _ _⟩⟩
  (fun x=>{ tmps:=#[.string (bytes s),.func (.func 239) #[] #[],.func (.func 240) #[] #[],undef,.pointer (some ⟨w.heap.size,0,none⟩),undef,.slice none 0 0,.pointer (some ⟨w.heap.size+1,0,none⟩),.string x,undef,.string (bytes s),.bool false,.string (bytes s),.string (bytes s),
    .func (.func 328) #[] #[.pointer (some ⟨m+1,0,none⟩),.pointer (some ⟨m,0,none⟩),.pointer (some ⟨m+2,0,none⟩)],.string x,
    undef,undef,undef,undef,undef,undef,undef,undef,undef,undef,undef,undef,undef,undef,undef],defers:=[] }) ?assign ?body ?done ?panic
 case assign =>
  intro l x W' K hK;gi_wp2
  exact hK
 case panic =>
  rintro c W' ⟨rfl,hB',hbad⟩ hk';have HV:=lH (show Ja s=(2,[]) by unfold Ja Js;rw[if_neg HD0.out,if_pos hbad]);refine⟨by simp,.inl ⟨_,_,rfl,run_takeDeferred hk',?_⟩⟩;exact jw.bad (by rw[HV.out]) (by decide) (zm hB' (by omega))
 case body =>
  rintro l k p W' hp ⟨hB',hd',hfc,v,hvc',hvf',hvo⟩ hlt';have hmem:p ∈ partsOf s:=List.mem_of_getElem? hp;have HMEM:=lH hmem;have hpl:=HPL.out p hmem;have HE':=lH (HE.out.kept hB');have HB':=lH hB';have HD':=lH hd';have HP:=lH hp;have hvb:w.heap.size+1<W'.heap.size:=by rw[bsz] at hlt';omega
  have HLT:=lH (show m+5≤W'.heap.size by rw[bsz] at hlt';omega);have HHD:Hid ((boxes w1 s).heap.size=m+3):=lH bsz;by_cases hgood:ZE p=false
  · have HGOOD:=lH hgood;obtain⟨x,y,hxy⟩:∃x y,JJ p=(x,y):=⟨_,_,rfl⟩
    have HXY:=lH hxy;have HCALL:=lH (jm5 p W' HE'.out hpl hgood);rw[hxy] at HCALL;obtain⟨av,cv,rfl,q1,q2,q3⟩:=hvo.at_;obtain⟨n,hn⟩:∃n,(zN JJ (partsOf s) k).length=n:=⟨_,rfl⟩
    rw[hn] at hvo hvc';have HVO:=lH hvo;have HFC0:=lH hfc;have HN:=lH hn;have hn9:n≤9:=by
     have:=XN (f:=JJ) (show k≤(partsOf s).length from Nat.le_of_lt (List.getElem?_eq_some_iff.1 hp).1);omega
    clear bc bsz hB' hd' hp hmem hlt' q3 hvo hn q1 q2 hgood hxy;gi_wp2_with (refine⟨trivial,?_⟩;gi_at_call 239;refine(CallsIn.inRound l (callsIn_wide.2 HCALL.out)).mono ?_;rintro e W1 ⟨rfl,k1⟩;have K1':=lH k1;have hvc1:=cell_later k1 hvc';have hvf1:=(k1.frozen (p:=⟨w.heap.size+1,0,none⟩) hvb).trans hvf';have hm1:w.heap.size+1<W1.heap.size:=Nat.lt_of_lt_of_le hvb k1.size;clear k1 hvc' hvf' hfc;refine Hid.out ?_)
    refine lH ?_;by_cases h8:n≤8
    · obtain⟨i0,hi,hz0,hz1,hz2⟩:=info_parts joZ;gi_wp2_with (gi_at_builtin;go_must (refine wpListIn_append_own _ rfl (.tmp 22) (.tmp 24) _ rfl (m+5) 147 i0 _ 2 32 Tryz.underlying47 hi hz0 hz1 hz2 rfl (by decide) _ n (jd js (zN JJ (partsOf s) k)) rfl (((HVO.out.kept K1'.out).kept (jk W1 (.cells #[.string x,.string y] 147) (.cells #[.string x,.string y] 147))).row HN.out) ⟨W1.heap.size+1,0,none⟩ 1 1 [.string x,.string y] rfl rfl (joB _ _ (.string x) (.string y) _) (jfY x y) (by unfold maxLen;omega) (by omega) (by rw[World.size_alloc,World.size_alloc];have:=HLT.out;have:=K1'.out.size;omega) ?_);intro v' w2 hown' hgrow _;refine Hid.out ?_)
      refine lH ?_;obtain⟨g',cap',rfl⟩:=ownsRow_succ hown';have KA:=lH (show Kept W' ((W1.alloc (.cells #[.string x,.string y] 147)).alloc (.cells #[.string x,.string y] 147)) from K1'.out.trans (jk W1 _ _));have hrow:∀r,(Value.slice av n cv).ownBlock=some r→m+5≤r:=fun r hr=>(HVO.out.1.lt r hr).1;have hbl:∀b,b<m+5→w2.heap[b]?=W'.heap[b]?:=fun b hb=>(hgrow.block b (Nat.lt_of_lt_of_le hb (Nat.le_trans HLT.out KA.out.size)) (fun e=>by have:=hrow b e.symm;omega)).trans (KA.out.block b (Nat.lt_of_lt_of_le hb HLT.out));have HBL:=lH hbl;have hvc2:w2.cell? ⟨w.heap.size+1,0,none⟩=some (.slice av n cv):=(World.cell?_of_block (a:=⟨w.heap.size+1,0,none⟩) (hgrow.block (w.heap.size+1) (by simp;omega) (fun e=>by have:=hrow _ e.symm;omega))).trans (cell_later (jk W1 _ _) hvc1);have hvf2:w2.frozen? ⟨w.heap.size+1,0,none⟩=false:=(World.frozen?_of_block (a:=⟨w.heap.size+1,0,none⟩) (hgrow.block (w.heap.size+1) (by simp;omega) (fun e=>by have:=hrow _ e.symm;omega))).trans (((jk W1 _ _).frozen (p:=⟨w.heap.size+1,0,none⟩) hm1).trans hvf1);have HOWN:=lH hown';have HGS:=lH (show Below w.heap.size w w2 from⟨hgrow.os.trans (KA.out.os.trans HB'.out.os),hgrow.tape.trans (KA.out.tape.trans HB'.out.tape),hgrow.output.trans (KA.out.output.trans HB'.out.output),Nat.le_trans HB'.out.size (Nat.le_trans KA.out.size hgrow.size),fun b hb=>(HBL.out b (by omega)).trans (HB'.out.block b hb)⟩);have HFC:=lH (show w2.cell? ⟨w.heap.size,0,none⟩=some (.func (.func 239) #[] #[]) from(World.cell?_of_block (a:=⟨w.heap.size,0,none⟩) (HBL.out w.heap.size (by omega))).trans HFC0.out);clear hvc1 hvf1 hown' hgrow hrow hbl hi hz0 hz1 hz2;gi_wp2
      refine⟨fun b hb=>?_,HGS.out.setCell (p:=⟨w.heap.size+1,0,none⟩) (by show w.heap.size≤w.heap.size+1;omega) _,Z8 HD'.out HP.out HGOOD.out,?_,⟨_,World.cell?_setCell_same' _ _ _ (by rw[hvc2];rfl),by rw[World.frozen?_setCell];exact hvf2,?_⟩⟩
      · have hbm:b<m+5∧b≠w.heap.size+1:=by have:=HHD.out;rcases hb with h | h | h | h | h<;>omega
        exact(Below.heap_setCell w2 ⟨w.heap.size+1,0,none⟩ _ b hbm.2).trans (HBL.out b hbm.1)
      · rw[World.cell?_setCell_other _ _ _ _ (by intro e;injection e with e;omega)];exact HFC.out
      · have hl:(zN JJ (partsOf s) (k+1)).length=n+1:=by rw[JD HP.out (by rw[HN.out];exact h8),List.length_append,HN.out];rfl
        have ho:Own js 147 w2 (m+5) (.slice (some ⟨g',0,none⟩) (n+1) cap') (zN JJ (partsOf s) (k+1)):=by
         refine⟨?_,?_⟩
         · rw[hl,JD HP.out (by rw[HN.out];exact h8),jD,HXY.out];exact HOWN.out
         · rw[JD HP.out (by rw[HN.out];exact h8)];intro z hz;rcases List.mem_append.1 hz with g | g
           · exact HVO.out.2 z g
           · have:z=JJ p:=by simpa using g
             rw[this];exact jjo hpl
        exact ho.setCell_below (a:=⟨w.heap.size+1,0,none⟩) (by show w.heap.size+1<m+5;omega) _
    · have HFULL:=lH (qH (f:=JJ) HP.out (by rw[HN.out];exact h8));have h9:8<n:=by omega
      have HQ1:=lH (cell_later (ja W1 (.cells #[.string x,.string y] 147)) hvc1);have HQ2:=lH (((ja W1 (.cells #[.string x,.string y] 147)).frozen (p:=⟨w.heap.size+1,0,none⟩) hm1).trans hvf1);have HFC:=lH (show (W1.alloc (.cells #[.string x,.string y] 147)).cell? ⟨w.heap.size,0,none⟩=some (.func (.func 239) #[] #[]) from cell_later (K1'.out.trans (ja W1 _)) HFC0.out);clear h8;gi_wp2
      refine⟨fun b hb=>?_,HB'.out.trans (Below.mono (Kept.trans K1'.out (ja W1 _)) HB'.out.size),Z8 HD'.out HP.out HGOOD.out,HFC.out,⟨.slice av n cv,HQ1.out,HQ2.out,?_⟩⟩
      · have hbm:b<m+5:=by have:=HHD.out;rcases hb with h | h | h | h | h<;>omega
        exact(Kept.trans K1'.out (ja W1 _)).block b (Nat.lt_of_lt_of_le hbm HLT.out)
      · rw[HFULL.out];exact HVO.out.kept (Kept.trans K1'.out (ja W1 _))
  · have HBAD:=lH (show ZE p=true by simpa using hgood);clear bc bsz hB' hd' hp hmem hlt' hvo hvc' hvf' hgood;gi_wp2_with (refine⟨trivial,?_⟩;gi_at_call 239;refine(CallsIn.inRound l (callsIn_wide.2 (jl5 p _ HE'.out hpl HBAD.out))).mono ?_;rintro e W1 ⟨rfl,k1⟩;have K1':=lH k1;clear k1)
    refine⟨rfl,fun b hb=>?_,rfl,HB'.out.trans (Below.mono K1'.out HB'.out.size),?_⟩
    · have hbm:b<m+5:=by have:=HHD.out;rcases hb with h | h | h | h | h<;>omega
      exact K1'.out.block b (Nat.lt_of_lt_of_le hbm HLT.out)
    · rw[List.any_eq_true];exact⟨p,HMEM.out,HBAD.out⟩
 case done =>
  rintro W' ⟨hB',hd',hfc,v,hvc',hvf',hvo⟩ hk';have hany:(partsOf s).any ZE=false:=by
   rw[List.any_eq_false];intro p hp;rw[hd' p (by simpa using hp)];decide
  have hacc:zN JJ (partsOf s) (partsOf s).length=((partsOf s).map JJ).take 9:=by unfold zN;rw[List.take_length]
  rw[hacc] at hvo;obtain⟨R,hR⟩:∃R,((partsOf s).map JJ).take 9=R:=⟨_,rfl⟩
  have HV:=lH (show Ja s=if zF R≠0 then (zF R,[]) else (0,R) by unfold Ja Js;rw[if_neg HD0.out,if_neg (by rw[hany];decide),hR]);rw[hR] at hvo;obtain⟨av,cv,rfl,q1,q2,q3⟩:=hvo.at_;have HVO:=lH hvo;have HCHK:=lH (fun W (k:Kept W' W)=>qX av R.length cv R W (q3.kept k));have HDD:=lH hk';have HB':=lH hB';have HLT:=lH (show m+3<W'.heap.size by have:=(Array.getElem?_eq_some_iff.1 hk').1;rw[bsz] at this;exact this);have HBS:=lH bsz;have hvb:w.heap.size+1<W'.heap.size:=by have:=HLT.out;omega
  clear bc bsz hB' hd' hk' hvo q3 q1 q2 hR hacc hany hfc;refine j6 (n:=6) (wpIn_wide.2 ?_);have KD:=lH (Kept.drew W');have f1:=cell_later KD.out hvc';by_cases hc:zF R=0
  · have HC:=lH hc;have HCW:=lH (HCHK.out _ KD.out);rw[hc] at HCW;clear hc;go_wp2;go_region_held3 (fun W=>W.cell? ⟨w.heap.size+1,0,none⟩=some (.slice av R.length cv)∧Kept W' W)
     (first | exact⟨f1,KD.out⟩ | exact⟨cell_later K1.out f1,KD.out.trans K1.out⟩)
     (first | (go_at_call 240;refine HCW.out.mono ?_;rintro e1 W1 ⟨rfl,k1⟩;have K1:=lH k1;clear k1) | (go_at_call 190;refine(Z7 _ _).mono ?_;rintro e2 w2 ⟨rfl,rfl⟩))
    go_wp2;have K1':=lH (KD.out.trans K1.out);have e1:W1.heap[(boxes w1 s).heap.size]?=some (.deferred (some [])):=(K1'.out.block _ (by rw[HBS.out];exact HLT.out)).trans HDD.out;refine⟨by simp,.inl ⟨_,_,rfl,run_takeDeferred e1,?_⟩⟩;refine⟨_,results_tmp rfl _ _ _,?_⟩;refine jw.good (by rw[HV.out,if_neg (by rw[HC.out];decide)]) (by rw[HV.out,if_neg (by rw[HC.out];decide)];exact((HVO.out.kept K1'.out).put (by rw[HBS.out];omega) _).base_le (by omega)) ?_;exact zm (HB'.out.trans (Below.mono K1'.out HB'.out.size)) (by rw[HBS.out];omega)
  · have HC:=lH hc;have HCW:=lH (HCHK.out _ KD.out);clear hc;go_wp2;refine Code.wp_mono (Q:=fun e a W=>match e with | .panic c=>c=[ju (zF R)]∧Kept W' W∧a.defers=[{ target:=.collected (boxes w1 s).heap.size,args:=#[] }] | _=>False) ?post ?_
    case post =>
     intro e a' W1 h
     cases e<;>try exact h.elim
     obtain⟨rfl,hk,hd⟩:=h;obtain⟨tm,df⟩:=a';dsimp only at hd;subst hd;have e1:W1.heap[(boxes w1 s).heap.size]?=some (.deferred (some [])):=(hk.block _ (by rw[HBS.out];exact HLT.out)).trans HDD.out;refine⟨by simp,.inl ⟨_,_,rfl,run_takeDeferred e1,?_⟩⟩;exact jw.bad (by rw[HV.out,if_pos HC.out]) HC.out (zm (HB'.out.trans (Below.mono hk HB'.out.size)) (by rw[HBS.out];omega))
    refine wp_region_held_drew (S:=fun W=>W.cell? ⟨w.heap.size+1,0,none⟩=some (.slice av R.length cv)∧Kept W' W) (by kernel_rfl) ⟨f1,KD.out⟩ (fun hHeld=>?_);refine tkI 0 ?_;refine tkI 1 ?_;refine tkI 2 ?_;try simp only[nP]
    refine rdH (rs:=[3]) (h:=AllReadyH.cons rfl (fun K hK=>?_) AllReadyH.nil);go_simp;refine HCW.out.mono ?_;rintro e1 W1 ⟨rfl,k1⟩;have K1:=lH k1;refine hK.out _ _ ⟨cell_later k1 f1,KD.out.trans k1⟩ (fun hHeld2=>?_);clear hK K k1;try simp only[nP]
    refine rdH (rs:=[4]) (h:=AllReadyH.cons rfl (fun K hK=>?_) AllReadyH.nil);go_simp;refine(jjc _ _ _ HC.out).mono ?_;rintro e2 w2 ⟨rfl,rfl⟩;first | exact⟨rfl,KD.out.trans K1.out⟩ | exact⟨rfl,rfl,KD.out.trans K1.out,rfl⟩ | exact⟨rfl,KD.out.trans K1.out,rfl⟩
end Go.Proofs.YteoedoomhnnnoaaGreatDoor
namespace Go.Proofs.YteoedoomhnnnoaaGreatDoor
open Go.RowKit
theorem jcg (B:Nat) (q:Nat) (x y:Int) (w:World) (hq:w.cell? ⟨q,0,none⟩=some (.int .i64 y)) (hzq:w.frozen? ⟨q,0,none⟩=false) (hBq:B≤q) :
 CallsD Tryz.prog 284 #[.pointer (some ⟨q,0,none⟩)] (.panicking [ju x]) w fun e u' w' =>
  e=.returned (.tuple #[])∧u'=.panicking [{ ju x with recovered:=true }]∧w'.cell? ⟨q,0,none⟩=some (.int .i64 x)∧Below B w w':=by
 have hta:∀W,(Instr.typeAssert (.iface 39 (.int .i64 x)) 20 39 false).run Tryz.prog W=.ok (.int .i64 x) W:=fun _=>by kernel_rfl
 refine callsD_of_wpS Tryz.func284 rfl fun c₀ cs hu=>?_;apply wpS_seq;apply wpS_region;simp[wpOpsS,go_sem,recoverD,hu,Tryz.ntmps284,Exit.thenS];apply wpS_seq;apply wpS_region;simp[wpOpsS,go_sem,recoverD,Exit.thenS];refine wpS_cond (t:=true) (by simp[Act.eval,Array.replicate]) ?_;simp only[if_true];refine wpS_of_wp ?_;simp[Array.replicate];go_wp2;simp[bodyPostS,results,Tryz.results284];exact⟨World.cell?_setCell_same' _ _ _ (by rw[hq];rfl),(Below.refl B w).setCell (p:=⟨q,0,none⟩) hBq _⟩
theorem jgW (q:Addr) (w:World) :
 CallsD Tryz.prog 284 #[.pointer (some q)] .returning w fun e u' w'=>e=.returned (.tuple #[])∧u'=.returning∧w'=w:=by
 refine callsD_of_wpS Tryz.func284 rfl fun c₀ cs hu=>?_;apply wpS_seq;apply wpS_region;simp[wpOpsS,go_sem,recoverD,hu,Tryz.ntmps284,Exit.thenS];apply wpS_seq;apply wpS_region;simp[wpOpsS,go_sem,recoverD,hu,Exit.thenS];refine wpS_cond (t:=false) (by simp[Act.eval,Array.replicate]) ?_;simp only[Bool.false_eq_true,if_false];refine wpS_of_wp (wp_skip ?_)
 cases c₀
 simp_all [bodyPostS,results,Tryz.results284]
def jmU (r:Int×PL) (w:World) (e:Ending) (w':World):Prop :=
 ∃v,e=.returned (.tuple #[v,.int .i64 r.1])∧Own js 147 w' w.heap.size v r.2∧Kept w w'
theorem jg3 (C:Addr) (r:Int×PL) (w:World) (hr:r.1≠0→r.2=[])
 (hk:∀W,Kept w W→Calls Tryz.prog 237 #[.pointer (some C)] W (jw js 147 r W.heap.size W)) :
 Calls Tryz.prog 236 #[.func (.func 237) #[] #[.pointer (some C)]] w (jmU r w):=by
 have hmf:=hmfL (P:=Tryz.prog);have HK:=lH hk;have HR:=lH hr;clear hk hr;obtain⟨r1,r2⟩:=r;go_enter_defers Tryz.func236,Tryz.ntmps236
 go_wp2_with fail
 refine(HK.out _ (ja _ _)).mono ?_;rintro e1 w1 ⟨h0,h1,hb⟩;have k1:=hb.size;simp only[World.size_alloc] at k1;have c2:=(hb.cell (p:=⟨w.heap.size,0,none⟩) (by simp))
 have z2:=(hb.frozen (p:=⟨w.heap.size,0,none⟩) (by simp))
 have e2':w1.cell? ⟨w.heap.size,0,none⟩=some (.int .i64 0):=by rw[c2];go_simp
 have y2:w1.frozen? ⟨w.heap.size,0,none⟩=false:=by rw[z2];go_simp
 clear c2 z2;have KB:=lH (show Below w.heap.size w w1 from(ja w _).trans hb);by_cases hx:r1=0
 · subst hx;obtain⟨v,rfl,ho⟩:=h0 rfl;have HO:=lH ho;obtain⟨av,cv,rfl,_,_,_⟩:=ho.at_;have hsz:=World.size_alloc w (.cells #[.int .i64 0] 39);clear h0 h1 hb ho;go_wp2_with fail
   refine leaves_cons (f:=284) (args:=#[.pointer (some ⟨w.heap.size,0,none⟩)]) (by simp) (by simp[go_sem]) ?_;refine(jgW ⟨w.heap.size,0,none⟩ _).mono ?_;rintro e u' w'' ⟨rfl,rfl,rfl⟩;simp[Leaves,settle,results,Tryz.results236,go_sem,e2'];exact⟨_,rfl,(HO.out.setCell_below (a:=⟨w.heap.size,0,none⟩) (by simp) _).base_le (by simp),(KB.out.setCell (p:=⟨w.heap.size,0,none⟩) (Nat.le_refl _) _)⟩
 · obtain rfl:=h1 hx;obtain rfl:=HR.out hx;clear h0 h1 hb;go_wp2_with fail
   refine leaves_cons (f:=284) (args:=#[.pointer (some ⟨w.heap.size,0,none⟩)]) (by simp) (by simp[go_sem]) ?_;refine(jcg w.heap.size w.heap.size r1 0 _ e2' y2 (by omega)).mono ?_;rintro e u' w'' ⟨rfl,rfl,q2,q3⟩;simp[Leaves,settle,results,Tryz.results236,go_sem,q2];exact⟨_,rfl,Own.nil _ _ _,KB.out.trans q3⟩
theorem jhJ (s:List UInt8) (w:World) (hE:Env w) (hs:s.length≤1000000) :
 Calls Tryz.prog 238 #[.string (bytes s),.func (.func 239) #[] #[],.func (.func 240) #[] #[]] w (jw js 147 (Ja s) w.heap.size w):=by
 by_cases h:s=[45]
 · subst h;exact jgx w
 · exact jh9 s w hE hs h
theorem jmo (C:Addr) (s:List UInt8) (w:World) (h1:w.cell? C=some (.string (bytes s))) (hE:Env w) (hs:s.length≤1000000) :
 Calls Tryz.prog 237 #[.pointer (some C)] w (jw js 147 (Ja s) w.heap.size w):=by
 have HE:=lH hE;clear hE;go_enter Tryz.func237,Tryz.ntmps237;go_wp2_with fail
 refine(jhJ s _ HE.out hs).mono ?_;rintro e w' ⟨g0,g1,k⟩;by_cases hx:(Ja s).1=0
 · obtain⟨v,rfl,ho⟩:=g0 hx;have HX:=lH hx;have HO:=lH ho;have HK:=lH k;clear g0 g1 hx ho k;go_wp2;go_ret;exact jw.good HX.out HO.out HK.out
 · obtain rfl:=g1 hx;have HX:=lH hx;have HK:=lH k;clear g0 g1 hx k;go_wp2;exact⟨rfl,jw.bad rfl HX.out HK.out⟩
theorem X3 (s:List UInt8) (w:World) (hE:Env w) (hs:s.length≤1000000) :
 Calls Tryz.prog 191 #[.string (bytes s)] w (jmU (Ja s) w):=by
 have hmf:=hmfL (P:=Tryz.prog);have hC:∀W,Kept (w.alloc (.cells #[.string (bytes s)] 9)) W→Calls Tryz.prog 237 #[.pointer (some ⟨w.heap.size,0,none⟩)] W (jw js 147 (Ja s) W.heap.size W):=by
  intro W k;have c1:=k.cell (p:=⟨w.heap.size,0,none⟩) (by simp);exact jmo ⟨w.heap.size,0,none⟩ s W (by rw[c1];go_simp) (hE.kept ((ja w _).trans k)) hs
 have HC:=lH hC;clear hC hE hs;go_enter Tryz.func191,Tryz.ntmps191;go_wp2_with fail
 refine(jg3 ⟨w.heap.size,0,none⟩ (Ja s) _ Xn HC.out).mono ?_;rintro e w' ⟨v,rfl,ho,k⟩;have HO:=lH ho;have HK:=lH k;clear ho k;go_wp2;go_ret2
 exact⟨v,rfl,HO.out.base_le (by simp),(ja w _).trans HK.out⟩
end Go.Proofs.YteoedoomhnnnoaaGreatDoor
