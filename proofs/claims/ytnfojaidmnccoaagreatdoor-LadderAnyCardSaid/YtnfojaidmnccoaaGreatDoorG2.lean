/- C. -/
import Derived.Test.YtnfojaidmnccoaaGreatDoorG0
import Derived.Test.YtnfojaidmnccoaaGreatDoorG1
import Derived.Lib.ItoaLen
import Derived.Lib.AppendIntMem
import Derived.Lib.SmallJoins
import Derived.Test.YtnfojaidmnccoaaGreatDoorRows
import Derived.Stop.LaidErr
import Derived.Stop.Joined
import Derived.MakeChecks
import Derived.Deep.CutRange
set_option linter.unusedVariables false
set_option maxRecDepth 100000
set_option maxHeartbeats 25600000
namespace Go.Proofs.YtnfojaidmnccoaaGreatDoor.Vec
open Go.RowKit Go.Shelf
structure j5 (w:World):Prop extends Env w where
 tab:Lib.TabIs Tryz.prog w "internal/strconv.uint64pow10" .u64 Lib.pow10Tab
theorem qT:Tryz.prog.globalNamed "internal/strconv.uint64pow10"=some 2:=by kernel_rfl
theorem j5.kept {w w':World} (h:j5 w) (k:Kept w w'):j5 w':=by
 refine⟨h.toEnv.kept k,Joins.tab_stays qT h.tab k (Nat.le_refl _)⟩
def jg (first:Bool):V→List UInt8
 | []=>[]
 | x::t=>(if first=true then [] else [44])++(x.1.data.toList++([61]++(Lib.itoa x.2++jg false t)))
def jz (l:V):List UInt8:=if l=[] then [45] else jg true l
theorem Jg:∀{l:V} {k:Nat},jU l=true→k<l.length→(nm l k).size≤50
 | [],_,_,h=>absurd h (by simp)
 | x::t,0,h,_=>by
  simp only[jU,Bool.and_eq_true,decide_eq_true_eq] at h;exact h.1
 | x::t,k+1,h,hk=>by
  simp only[jU,Bool.and_eq_true,decide_eq_true_eq] at h;show (nm t k).size≤50;exact Jg h.2 (by simpa using hk)
theorem Ji (n:Int) (w:World) (hE:j5 w) (h0:-9223372036854775808≤n) (h1:n≤9223372036854775807) :
 Calls Tryz.prog 62 #[.int .i64 n,.int .i64 10] w fun e w'=>e=.returned (.string (bytes (Lib.itoa n)))∧Kept w w':=by
 refine(Tryz.strconv_FormatInt_10 n h0 h1 w hE.tab).mono ?_;rintro e w' ⟨rfl,k,os,rfl⟩;exact⟨rfl,Lib.below_grow _ _ (Nat.le_refl _) _ _⟩
theorem jn (l:List UInt8):(bytes l).size=l.length:=rfl
theorem jbU (a:Option Addr) (len cap:Nat) (l:V) (w:World) (hE:j5 w) (hr:jw w a len l) (hfew:j4 l=true) :
 Calls Tryz.prog 31 #[.slice a len cap] w fun e w'=>e=.returned (.string (bytes (jz l)))∧Kept w w':=by
 have hl:=hr.1;have hf:=hr.2.2.1;unfold j4 at hfew;simp only[Bool.and_eq_true,decide_eq_true_eq] at hfew;have h20:len≤20:=by omega
 rcases hr.form with h0 | ⟨b,off,rfl⟩
 · subst h0;have HE:=lH (show jz l=[45] by rw[List.eq_nil_of_length_eq_zero hl];rfl);clear hr hl hf hfew hE;go_enter Tryz.func31,Tryz.ntmps31;go_wp2;go_ret;exact⟨by rw[HE.out];rfl,Kept.refl _⟩
 · by_cases h0:len=0
   · subst h0;have HE:=lH (show jz l=[45] by rw[List.eq_nil_of_length_eq_zero hl];rfl);clear hr hl hf hfew hE;go_enter Tryz.func31,Tryz.ntmps31;go_wp2;go_ret;exact⟨by rw[HE.out];rfl,Kept.refl _⟩
   · have hne:((len:Int)==0)=false:=by
      have:(len:Int)≠0:=by omega
      simpa using this
     obtain⟨HV,HS,HF,HR,HL,HE⟩:=lH6 (show jz l=jg true l by unfold jz;rw[if_neg (by intro e;rw[e] at hl;simp at hl;omega)]) (fun k (hk:k<l.length)=>Jg hfew.2 hk) hf hr hl hE;clear hr hl hf hfew hE h0;go_enter Tryz.func31,Tryz.ntmps31;go_wp2;go_loopw [11] (fun i wr=>∃(k:Nat) (acc:List UInt8),k≤len∧i=.int .i64 k∧acc++jg (decide (k=0)) (l.drop k)=jg true l∧acc.length≤k*80∧IsB w.heap.size w.heap.size acc wr∧Below w.heap.size w wr) (fun i _=>len-(intOf i).toNat)
     case atStart=>exact⟨0,[],Nat.zero_le _,rfl,rfl,Nat.le_refl _,Lib.fresh_isBuilder _ _ w,ja _ _⟩
     case round =>
      obtain⟨k,acc,hk,rfl,hrest,hacc,hI,hB⟩:=hrel;have HB:=lH hB;by_cases hlt:k<len
      · obtain⟨hb,c1,c2⟩:=(HR.out.kept hB).cells hlt;have HI:=lH (show k<l.length by rw[HL.out];exact hlt);have hs50:=HS.out k HI.out;have hq:=(HF.out k HI.out).2;have UK:=lH (Lib.itoa_length_le (qn l k) hq.1 hq.2);have Vc:=lH (show acc++(if decide (k=0)=true then [] else [44])++(nm l k).data.toList++[61]++Lib.itoa (qn l k)++jg (decide (k+1=0)) (l.drop (k+1))=jg true l by
         rw[←hrest,drop_cons HI.out];simp[jg,List.append_assoc])
        have hszn:(nm l k).data.toList.length=(nm l k).size:=by rw[Array.length_toList,ByteArray.size_data]
        have Vq:=lH hszn;obtain⟨W1,hW1⟩:=eX (wr.alloc (.cells #[.string (nm l k),.int .i64 (qn l k)] 63))
        obtain⟨I1,B1,A1⟩:=lH3 (show IsB w.heap.size w.heap.size acc W1 by rw[←hW1];exact hI.kept (ja wr _)) (show Below w.heap.size w W1 by rw[←hW1];exact hB.trans (Below.mono (ja wr _) hB.size)) (show W1.heap[wr.heap.size]?=some (.cells #[.string (nm l k),.int .i64 (qn l k)] 63 (0,0)) by rw[←hW1];exact World.alloc_heap_new wr _);have hne2:wr.heap.size≠w.heap.size:=by have:=hI.lt;omega
        have Tm:=lH hW1;clear hrest hI hB hszn hW1;by_cases hk0:k=0
        · have hd:decide (0<k)=false:=by subst hk0;decide
          have Vc:=lH (show acc++(nm l k).data.toList++[61]++Lib.itoa (qn l k)++jg (decide (k+1=0)) (l.drop (k+1))=jg true l by
           have:=Vc.out;rw[decide_eq_true hk0] at this;simpa using this)
          clear hk0;go_wp2_with fail
          rw[Tm.out];have a1:W1.cell? ⟨wr.heap.size,0,none⟩=some (.string (nm l k)):=by rw[Lib.cell_of_heap A1.out];rfl
          go_wp2_with fail
          refine(zp w.heap.size w.heap.size acc (nm l k) _ I1.out (by omega) B1.out.size).mono ?_;rintro e w2 ⟨rfl,i2,b2,o2⟩;obtain⟨B2,I2,A2⟩:=lH3 (B1.out.trans b2) i2 ((o2 _ _ _ hne2 A1.out).trans A1.out);clear i2 b2 o2 a1;go_wp2_with fail
          refine(zp w.heap.size w.heap.size (acc++(nm l k).data.toList) (bytes [61]) _ I2.out (by rw[List.length_append];have e1:(bytes [61]).size=1:=rfl;have e3:=Vq.out;omega) B2.out.size).mono ?_;rintro e w3 ⟨rfl,i3,b3,o3⟩;obtain⟨B3,I3,A3⟩:=lH3 (B2.out.trans b3) (show IsB w.heap.size w.heap.size (acc++(nm l k).data.toList++[61]) w3 from i3) ((o3 _ _ _ hne2 A2.out).trans A2.out);clear i3 b3 o3;have a2:w3.cell? ⟨wr.heap.size,1,none⟩=some (.int .i64 (qn l k)):=by rw[Lib.cell_of_heap A3.out];rfl
          go_wp2_with fail
          refine(Ji (qn l k) _ (HE.out.kept B3.out) hq.1 hq.2).mono ?_;rintro e w4 ⟨rfl,k4⟩;have B4:=lH (B3.out.trans (Below.mono k4 B3.out.size));have I4:=lH (I3.out.kept k4);clear k4 a2;have SZ4:=lH (show (acc++(nm l k).data.toList++[61]).length+(bytes (Lib.itoa (qn l k))).size≤140737488355328 by
           have e1:(bytes (Lib.itoa (qn l k))).size=(Lib.itoa (qn l k)).length:=jn _;have e2:=UK.out;have e3:=Vq.out;simp only[List.length_append,List.length_cons,List.length_nil];omega)
          go_wp2_with fail
          refine(zp w.heap.size w.heap.size (acc++(nm l k).data.toList++[61]) (bytes (Lib.itoa (qn l k))) _ I4.out SZ4.out B4.out.size).mono ?_;rintro e w5 ⟨rfl,i5,b5,-⟩;have B5:=lH (B4.out.trans b5);have I5:=lH (show IsB w.heap.size w.heap.size (acc++(nm l k).data.toList++[61]++Lib.itoa (qn l k)) w5 from i5);clear i5 b5;go_wp2_with fail
          go_roundw
          case rel =>
           refine⟨k+1,acc++(nm l k).data.toList++[61]++Lib.itoa (qn l k),by omega,by go_num,Vc.out,?_,I5.out,B5.out⟩;have e2:=UK.out;have e3:=Vq.out;simp only[List.length_append,List.length_cons,List.length_nil];omega
          case measure=>simp[intOf];omega
        · have hd:decide (0<k)=true:=decide_eq_true (by omega);have Vc:=lH (show acc++[44]++(nm l k).data.toList++[61]++Lib.itoa (qn l k)++jg (decide (k+1=0)) (l.drop (k+1))=jg true l by
           have:=Vc.out;rw[decide_eq_false hk0] at this;simpa using this)
          have hk0:0<k:=by omega
          go_wp2_with fail
          rw[Tm.out];refine(zp w.heap.size w.heap.size acc (bytes [44]) _ I1.out (by have e1:(bytes [44]).size=1:=rfl;omega) B1.out.size).mono ?_;rintro e w0 ⟨rfl,i0,b0,o0⟩;obtain⟨B1,I1,A1⟩:=lH3 (B1.out.trans b0) (show IsB w.heap.size w.heap.size (acc++[44]) w0 from i0) ((o0 _ _ _ hne2 A1.out).trans A1.out);clear i0 b0 o0;have SZ1:=lH (show (acc++[44]).length+(nm l k).size≤140737488355328 by
           simp only[List.length_append,List.length_cons,List.length_nil];omega)
          have SZ2:=lH (show (acc++[44]++(nm l k).data.toList).length+(bytes [61]).size≤140737488355328 by
           have e1:(bytes [61]).size=1:=rfl;have e3:=Vq.out;simp only[List.length_append,List.length_cons,List.length_nil];omega)
          have a1:w0.cell? ⟨wr.heap.size,0,none⟩=some (.string (nm l k)):=by rw[Lib.cell_of_heap A1.out];rfl
          go_wp2_with fail
          refine(zp w.heap.size w.heap.size (acc++[44]) (nm l k) _ I1.out SZ1.out B1.out.size).mono ?_;rintro e w2 ⟨rfl,i2,b2,o2⟩;obtain⟨B2,I2,A2⟩:=lH3 (B1.out.trans b2) i2 ((o2 _ _ _ hne2 A1.out).trans A1.out);clear i2 b2 o2 a1;go_wp2_with fail
          refine(zp w.heap.size w.heap.size (acc++[44]++(nm l k).data.toList) (bytes [61]) _ I2.out SZ2.out B2.out.size).mono ?_;rintro e w3 ⟨rfl,i3,b3,o3⟩;obtain⟨B3,I3,A3⟩:=lH3 (B2.out.trans b3) (show IsB w.heap.size w.heap.size (acc++[44]++(nm l k).data.toList++[61]) w3 from i3) ((o3 _ _ _ hne2 A2.out).trans A2.out);clear i3 b3 o3;have a2:w3.cell? ⟨wr.heap.size,1,none⟩=some (.int .i64 (qn l k)):=by rw[Lib.cell_of_heap A3.out];rfl
          go_wp2_with fail
          refine(Ji (qn l k) _ (HE.out.kept B3.out) hq.1 hq.2).mono ?_;rintro e w4 ⟨rfl,k4⟩;have B4:=lH (B3.out.trans (Below.mono k4 B3.out.size));have I4:=lH (I3.out.kept k4);clear k4 a2;have SZ4:=lH (show (acc++[44]++(nm l k).data.toList++[61]).length+(bytes (Lib.itoa (qn l k))).size≤140737488355328 by
           have e1:(bytes (Lib.itoa (qn l k))).size=(Lib.itoa (qn l k)).length:=jn _;have e2:=UK.out;have e3:=Vq.out;simp only[List.length_append,List.length_cons,List.length_nil];omega)
          go_wp2_with fail
          refine(zp w.heap.size w.heap.size (acc++[44]++(nm l k).data.toList++[61]) (bytes (Lib.itoa (qn l k))) _ I4.out SZ4.out B4.out.size).mono ?_;rintro e w5 ⟨rfl,i5,b5,-⟩;have B5:=lH (B4.out.trans b5);have I5:=lH (show IsB w.heap.size w.heap.size (acc++[44]++(nm l k).data.toList++[61]++Lib.itoa (qn l k)) w5 from i5);clear i5 b5;go_wp2_with fail
          go_roundw
          case rel =>
           refine⟨k+1,acc++[44]++(nm l k).data.toList++[61]++Lib.itoa (qn l k),by omega,by go_num,Vc.out,?_,I5.out,B5.out⟩;have e2:=UK.out;have e3:=Vq.out;simp only[List.length_append,List.length_cons,List.length_nil];omega
          case measure=>simp[intOf];omega
      · have HD:=lH (show acc=jg true l by rw[←hrest,List.drop_of_length_le (by rw[HL.out];omega)];simp[jg]);have HI:=lH hI;clear hrest hI hB;go_wp2_with fail
        refine(Tryz.Builder_String_any w.heap.size w.heap.size acc _ HI.out HB.out.size).mono ?_;rintro e w1 ⟨rfl,hb1⟩;have Vh:=lH hb1;clear hb1;go_wp2;go_ret;exact⟨by rw[HV.out,←HD.out];rfl,HB.out.trans Vh.out⟩
open Go.RowKit
def Got (c:Int) (m:V) (w:World) (e:Ending) (w':World):Prop:=∃x,e=.returned (.tuple #[x,.int .i64 c])∧Reads w' x m∧Kept w w'
theorem Reads.nil (w:World):Reads w (.slice none 0 0) []:=⟨none,0,rfl,Nat.le_refl _,by decide,jw.nil w⟩
theorem JE.got {r:Int×V} {c:Int} {m:V} {w w':World} {e:Ending} (he:r=(c,m)) (h:JE r w e w'):Got c m w e w':=by
 subst he;obtain⟨v,rfl,ho,k⟩:=h;exact⟨v,rfl,ho.at_,k⟩
theorem jdf {v:Value} {l m:V} {c n:Int} {w:World} (h:Reads w v l) (hn:-9223372036854775808≤n) (hn':n≤9223372036854775807) (e:jA jj n l=(c,m)) :
 Calls Tryz.prog 30 #[v,.int .i64 n] w (Got c m w):=by
 obtain⟨a,cap,rfl,h1,h2,h3⟩:=h;exact(jbQ a _ cap l n w h3 hn hn').mono fun _ _=>JE.got e
theorem jcS {v:Value} {l:V} {c:Int} {w:World} (h:Reads w v l) (e:jc l=c) :
 Calls Tryz.prog 27 #[v] w fun x w'=>x=.returned (.int .i64 c)∧Kept w w':=by
 subst e;obtain⟨a,cap,rfl,h1,h2,h3⟩:=h;exact jbe a _ cap l w h3
theorem YH {v:Value} {l:V} {c:Int} {w:World} (h:Reads w v l) (e:jc l=c) :
 Calls Tryz.prog 12 #[v] w fun x w'=>x=.returned (.int .i64 c)∧Kept w w':=by
 subst e;obtain⟨a,cap,rfl,h1,h2,h3⟩:=h;exact zN a _ cap l w h3
theorem Xf {v:Value} {l:V} {s:List UInt8} {w:World} (hE:j5 w) (h:Reads w v l) (hf:j4 l=true) (e:jz l=s) :
 Calls Tryz.prog 31 #[v] w fun x w'=>x=.returned (.string (bytes s))∧Kept w w':=by
 subst e;obtain⟨a,cap,rfl,h1,h2,h3⟩:=h;exact jbU a _ cap l w hE h3 hf
theorem jdi {v:Value} {l:V} {n:ByteArray} {c:Int} {w:World} (h:Reads w v l) (e:jT l n=c) :
 Calls Tryz.prog 41 #[v,.string n] w fun x w'=>x=.returned (.int .i64 c)∧Kept w w':=by
 subst e;obtain⟨a,cap,rfl,h1,h2,h3⟩:=h;exact jcj a _ cap l n w h3
theorem jdb {n:ByteArray} {c:Bool} {w:World} (h:n.size≤maxLen) (e:isName n=c) :
 Calls Tryz.prog 65 #[.string n] w fun x w'=>x=.returned (.bool c)∧w=w':=by
 subst e;exact zR n w h
theorem jcP {v:Value} {l:V} {c:Bool} {w:World} (h:Reads w v l) (e:j4 l=c) :
 Calls Tryz.prog 11 #[v] w fun x w'=>x=.returned (.bool c)∧w=w':=by
 subst e;obtain⟨a,cap,rfl,h1,h2,h3⟩:=h;exact jcE a _ cap l w h3
def cpu:ByteArray:=⟨#[99,112,117]⟩
def mem:ByteArray:=⟨#[109,101,109]⟩
theorem q6:(Tryz.prog.info? 74).map (fun i=>(i.zero,i.size,i.bytes))=some (some (.agg #[.string ByteArray.empty,.int .i64 0]),2,24):=by kernel_rfl
theorem YI {l:V} {k:Nat} (h:k<l.length):l.take (k+1)=l.take k++[(nm l k,qn l k)]:=by
 rw[List.take_add_one];congr 1;have:l.getD k (ByteArray.empty,0)=l[k]:=by simp[List.getD,h]
 have e:(nm l k,qn l k)=l[k]:=by simp only[nm,qn,this]
 rw[e];simp[h]
theorem ja3 (a:Option Addr) (len cap:Nat) (l:V) (w:World) (hr:jw w a len l) (hlen:len≤1000000) :
 Calls Tryz.prog 13 #[.slice a len cap] w (fun e w'=>∃x,e=.returned x∧jq 74 w' w.heap.size x l∧Kept w w'):=by
 have hl:=hr.1;obtain⟨i0,hi,hz0,hz1,hz2⟩:=info_parts q6;rcases hr.form with h0 | ⟨b,off,rfl⟩
 · subst h0;have hl0:l=[]:=List.eq_nil_of_length_eq_zero hl;subst hl0;clear hr hl hi hz0 hz1 hz2;go_enter Tryz.func13,Tryz.ntmps13;go_wp2;refine wp_loop_rounds 1 ?_;rw[rounds_succ];go_wp2;go_ret;exact⟨_,rfl,jq.nil _ _ _,Kept.refl _⟩
 · obtain⟨HR,HL,HF⟩:=lH3 hr hl hr.2.2.1;clear hr hl;go_enter Tryz.func13,Tryz.ntmps13;go_wp2;go_loopw [3,4] (fun v i wr=>∃k:Nat,k≤len∧i=.int .i64 k∧jq 74 wr w.heap.size v (l.take k)∧Below w.heap.size w wr) (fun _ i _=>len-(intOf i).toNat)
   case atStart=>exact⟨0,Nat.zero_le _,rfl,jq.nil _ _ _,Below.refl _ _⟩
   case round =>
    obtain⟨k,hk,rfl,ho,hB⟩:=hrel;obtain⟨HO,HB,HT⟩:=lH3 ho hB (show (l.take k).length=k by rw[List.length_take,HL.out];omega);have VA:=lH (show wr.ownsRow w.heap.size 74 2 u3 k (cellsOf (l.take k)) by have:=HO.out.1;rw[HT.out] at this;exact this);by_cases hlt:k<len
    · obtain⟨hb,c1,c2⟩:=(HR.out.kept hB).cells hlt;have HI:=lH (show k<l.length by rw[HL.out];exact hlt);have hbw:b<w.heap.size:=(HR.out.cells hlt).1;have hbase:w.heap.size≤wr.heap.size:=hB.size;have Tn:=lH (show u3.ownBlock≠some b by
       intro e;have:=(VA.out.lt b e).1;omega)
      have Uu:=lH (show w.heap.size≤(wr.alloc (.cells #[.string (nm l k),.int .i64 (qn l k)] 74)).drew.heap.size by simp;omega);have TM:=lH (show Below w.heap.size w ((wr.alloc (.cells #[.string (nm l k),.int .i64 (qn l k)] 74)).drew) from HB.out.trans (Below.mono ((ja wr _).trans (Kept.drewN _ 1)) hbase));have hk1:(k:Int)<(len:Int):=by omega
      have U2:=lH (HF.out k HI.out);clear ho hB;go_wp2_with fail
      go_region_held3 (fun W=>W.cell? ⟨b,off+k*2,none⟩=some (.string (nm l k))∧W.cell? ⟨b,off+k*2+1,none⟩=some (.int .i64 (qn l k)))
       (first
         | go_keep
         | (go_split_ands
            refine⟨?_,?_⟩
            · (refine(hgrow.cell_far ⟨b,off+k*2,none⟩ (by simp;omega) (Ne.symm Tn.out)).trans ?_;assumption)
            · (refine(hgrow.cell_far ⟨b,off+k*2+1,none⟩ (by simp;omega) (Ne.symm Tn.out)).trans ?_;assumption)))
       ((refine step_append_lies _ (by rfl) _ _ _ (by rfl) w.heap.size 74 i0 _ 2 24 Tryz.underlying31 hi hz0 hz1 hz2 rfl (by decide) u3 k (cellsOf (l.take k)) (by rfl) ((VA.out.alloc _).drew)
          ⟨wr.heap.size,0,none⟩ 1 1 [.string (nm l k),.int .i64 (qn l k)] (by rfl) (by rfl) (World.news_of_block (cs:=#[.string (nm l k),.int .i64 (qn l k)]) (t:=74) (fr:=(0,0)) (heap_alloc_new wr _)) (zl [(nm l k,qn l k)])
          (by decide) (by unfold maxLen;omega) (by omega) (by simp;omega) (wr.heap.size+1) (by simp) ?_;intro gg cap1 w1 hown1 hgrow hat hlt1))
      all_goals
       go_wp2;go_roundw
       case rel=>exact⟨k+1,by omega,by go_num,⟨by rw[YI HI.out,zd,List.length_append,HT.out];exact hown1,by rw[YI HI.out];exact HO.out.2.snoc U2.out.1 U2.out.2.1 U2.out.2.2⟩,TM.out.grown hgrow Uu.out (fun j hj=>(VA.out.lt j hj).1)⟩
       case measure=>simp[intOf];omega
    · have HK:=lH (show l.take k=l by rw[List.take_of_length_le (by rw[HL.out];omega)]);clear ho hB;go_wp2;go_ret;exact⟨_,rfl,by have h:=HO.out;rw[HK.out] at h;exact h,HB.out⟩
theorem jc0 (a:Option Addr) (len cap:Nat) (l:V) (w:World) (hr:jw w a len l) (hlen:len≤1000000) :
 Calls Tryz.prog 13 #[.slice a len cap] w (fun e w'=>∃x,e=.returned x∧Reads w' x l∧Kept w w'):=by
 refine(ja3 a len cap l w hr hlen).mono ?_;rintro e w' ⟨x,he,ho,k⟩;exact⟨x,he,ho.at_,k⟩
theorem ZM:∀s:List UInt8,Op.bytesLess s s=false
 | []=>rfl
 | a::s=>by
  have:¬a<a:=UInt8.lt_irrefl a;simp[Op.bytesLess,ZM s,this]
theorem Ya:∀{a b c:List UInt8},Op.bytesLess a b=true→Op.bytesLess b c=true→Op.bytesLess a c=true
 | _,_,[],_,h=>by simp[Op.bytesLess] at h
 | [],_,_::_,_,_=>by simp[Op.bytesLess]
 | x::a,[],z::c,h,_=>by simp[Op.bytesLess] at h
 | x::a,y::b,z::c,h,g=>by
  simp only[Op.bytesLess,Bool.or_eq_true,Bool.and_eq_true,decide_eq_true_eq,beq_iff_eq] at h g ⊢;rcases h with h | ⟨rfl,h⟩
  · rcases g with g | ⟨rfl,g⟩
    · exact .inl (UInt8.lt_trans h g)
    · exact .inl h
  · rcases g with g | ⟨rfl,g⟩
    · exact .inl g
    · exact .inr ⟨rfl,Ya h g⟩
theorem jcb (s t:ByteArray):ltS s t=Op.bytesLess s.data.toList t.data.toList:=by unfold ltS;rw[Lib.toList_data,Lib.toList_data]
theorem Zz {s t:ByteArray}:eqS s t=true↔s=t:=by
 unfold eqS;rw[Lib.toList_data,Lib.toList_data,beq_iff_eq];exact⟨fun h=>Go.WideShapes.bytes_inj h,fun h=>by rw[h]⟩
theorem Z9 (s:ByteArray):ltS s s=false:=by rw[jcb];exact ZM _
theorem jbb {s t u:ByteArray} (h:ltS s t=true) (g:ltS t u=true):ltS s u=true:=by
 rw[jcb] at *;exact Ya h g
theorem jcd {s t:ByteArray} (h:ltS s t=true):s≠t:=by rintro rfl;rw[Z9] at h;cases h
theorem jbz {s t:ByteArray} (h:ltS s t=true) (g:ltS t s=true):False:=jcd (jbb h g) rfl
def Gd (l:V):Prop:=(∀x ∈ l,isName x.1=true∧0<x.2∧x.2≤9223372036854775807)∧l.Pairwise (fun x y=>ltS x.1 y.1=true)
theorem Gd.nil:Gd []:=⟨fun x hx=>absurd hx (by simp),.nil⟩
theorem Gd.cons {x:ByteArray×Int} {t:V}:Gd (x::t)↔(isName x.1=true∧0<x.2∧x.2≤9223372036854775807)∧(∀y ∈ t,ltS x.1 y.1=true)∧Gd t:=by
 unfold Gd;rw[List.pairwise_cons,List.forall_mem_cons];constructor
 · rintro ⟨⟨a,b⟩,c,d⟩;exact⟨a,c,b,d⟩
 · rintro ⟨a,c,b,d⟩;exact⟨⟨a,b⟩,c,d⟩
theorem Xw (x:ByteArray×Int) (t:V):jT (x::t) x.1=x.2:=by rw[jT,if_pos (Zz.2 rfl)]
theorem Zg {x:ByteArray×Int} {n:ByteArray} (t:V) (h:x.1≠n):jT (x::t) n=jT t n:=by rw[jT,if_neg (fun e=>h (Zz.1 e))]
theorem get_mem:∀{l:V} {n:ByteArray},jT l n≠0→∃y ∈ l,y.1=n
 | [],_,h=>absurd rfl h
 | x::t,n,h=>by
  by_cases e:x.1=n
  · exact⟨x,by simp,e⟩
  · rw[Zg t e] at h;obtain⟨y,hy,hn⟩:=get_mem h;exact⟨y,by simp[hy],hn⟩
theorem Gd.len:∀{b r:V},Gd r→Gd b→(∀n,jT r n≠0→jT b n≠0)→r.length≤b.length
 | [],[],_,_,_=>Nat.le_refl _
 | [],x::s,hr,_,h=>by
  have:=h x.1;rw[Xw] at this;have h1:=(Gd.cons.1 hr).1;exact absurd rfl (this (by omega))
 | y::t,[],_,_,_=>Nat.zero_le _
 | y::t,x::s,hr,hb,h=>by
  have hr':=Gd.cons.1 hr;have hb':=Gd.cons.1 hb;have:s.length≤t.length:=Gd.len hr'.2.2 hb'.2.2 fun n hn=>by
   obtain⟨z,hz,rfl⟩:=get_mem hn;have hlt:=hr'.2.1 z hz;have hb2:=h z.1 (by rw[Zg s (jcd hlt)];exact hn);by_cases e:y.1=z.1
   · obtain⟨u,hu,hux⟩:=get_mem (h x.1 (by rw[Xw];omega));rcases List.mem_cons.1 hu with rfl | hu
     · rw[←hux,e,Z9] at hlt;cases hlt
     · have:=hb'.2.1 u hu;rw[hux,e] at this;exact(jbz hlt this).elim
   · rw[Zg t e] at hb2;exact hb2
  simp only[List.length_cons];omega
theorem YX:∀l:V,jx l l=true
 | []=>rfl
 | x::t=>by rw[jx,YX t,Zz.2 rfl];simp
theorem qS {a b:V} (h:a=b):jx a b=true:=h▸YX a
theorem Reads.fine {v:Value} {l:V} {w:World} (h:Reads w v l):j2 l:=by
 obtain⟨a,cap,rfl,h1,h2,h3⟩:=h;exact h3.2.2.1
open Go.ChangeShapes Go.WideShapes Go.ChangeAt Go.RowKit Go.Deep
theorem jaV:Tryz.prog.cellsOf 63=2:=by kernel_rfl
theorem jcR:Tryz.prog.cellsOf 204=1:=by kernel_rfl
theorem jbl:Tryz.prog.cellsOf 9=1:=by kernel_rfl
theorem jc1:Tryz.prog.cellsOf 2=1:=by kernel_rfl
theorem Yw {H:Type} {enc:TypeId×Value→H} {w:World} {base fuel:Nat} {sp:Nat→Bool} {held:Bool} {cs:List Value} {x:DataW H×List MemPlace} (h:DataW.trod enc Tryz.prog w base sp held fuel 63 cs=some x) :
 ∃(s:ByteArray) (n:Int),cs=[.string s,.int .i64 n]∧s.size≤maxLen∧-9223372036854775808≤n∧n≤9223372036854775807:=by
 obtain⟨ys,m,-,-,hlen,hyl,hf⟩:=DataW.trod_struct Tryz.underlying63 h;rw[jaV] at hlen
 match cs,hlen with
 | [c0,c1],_ =>
  have h0:DataW.trod enc Tryz.prog w base sp held m 9 (([c0,c1].drop 0).take (Tryz.prog.cellsOf 9))=ys[0]?:=hf 0 _ rfl;have h1:DataW.trod enc Tryz.prog w base sp held m 2 (([c0,c1].drop 1).take (Tryz.prog.cellsOf 2))=ys[1]?:=hf 1 _ rfl;rw[jbl] at h0;rw[jc1] at h1;obtain⟨y0,e0⟩:∃y,ys[0]?=some y:=⟨_,List.getElem?_eq_getElem (by rw[hyl];decide)⟩
  obtain⟨y1,e1⟩:∃y,ys[1]?=some y:=⟨_,List.getElem?_eq_getElem (by rw[hyl];decide)⟩
  rw[e0] at h0;rw[e1] at h1;obtain⟨s,q0,-,hs⟩:=DataW.trod_string Tryz.underlying9 h0;obtain⟨n,q1,-,hn⟩:=DataW.trod_int Tryz.underlying2 h1;simp only[List.drop_zero,List.take_succ_cons,List.take_zero,List.cons.injEq,and_true,List.drop_succ_cons] at q0 q1;subst q0;subst q1;have:=bounds_i64 hn;exact⟨s,n,rfl,hs,this.1,this.2⟩
theorem qQ {l m:V} {i:Nat} (h:i<l.length):nm (l++m) i=nm l i∧qn (l++m) i=qn l i:=by
 unfold nm qn;simp[List.getD,List.getElem?_append_left h]
theorem jaa (l:V) (s:ByteArray) (n:Int):nm (l++[(s,n)]) l.length=s∧qn (l++[(s,n)]) l.length=n:=by
 unfold nm qn;simp[List.getD]
theorem zC {H:Type} {enc:TypeId×Value→H} {w:World} {base fuel:Nat} {sp:Nat→Bool} {held:Bool} {v:Value} {x:DataW H×List MemPlace} (h:DataW.trod enc Tryz.prog w base sp held fuel 23 [v]=some x) :
 ∃l,Reads w v l:=by
 rcases open_slice Tryz.underlying23 h with ⟨hcs,-⟩ | ⟨a,len,cap,m,n,D,Pl,hcs,hb,hl,hm,hmm,hx,hi⟩
 · cases hcs;exact⟨[],Reads.nil w⟩
 · cases hcs
   have hlm:len≤m:=by rw[hmm];split<;>omega
   have key:∀k,k≤len→∃l:V,l.length=k∧∀i,i<k→((nm l i).size≤maxLen∧-9223372036854775808≤qn l i∧qn l i≤9223372036854775807) ∧
    w.cell? ((a.add (i*2)).add 0)=some (.string (nm l i))∧w.cell? ((a.add (i*2)).add 1)=some (.int .i64 (qn l i)):=by
    intro k
    induction k with
    | zero=>exact fun _=>⟨[],rfl,fun i hi=>absurd hi (by omega)⟩
    | succ k ih =>
     intro hk;obtain⟨l,e,hall⟩:=ih (by omega);obtain⟨cs',hc,ht'⟩:=hi k (by omega);obtain⟨s,q,rfl,b1,b2,b3⟩:=Yw ht';rw[jaV] at hc;obtain⟨-,-,hat⟩:=World.cells?_some hc;refine⟨l++[(s,q)],by simp[e],fun i hi=>?_⟩;by_cases e2:i=k
     · subst e2;subst e;rw[(jaa l s q).1,(jaa l s q).2];exact⟨⟨b1,b2,b3⟩,hat 0 (by decide),hat 1 (by decide)⟩
     · rw[(qQ (by omega)).1,(qQ (by omega)).2];exact hall i (by omega)
   obtain⟨l,e,hall⟩:=key len (Nat.le_refl _);subst e;refine⟨l,_,cap,rfl,hl,hm,rfl,Nat.le_trans hl hm,fun i hi=>(hall i hi).1,?_⟩;by_cases h0:l.length=0
   · exact .inl h0
   · obtain⟨b,off,spot⟩:=a;have hc:=(hall 0 (by omega)).2.1;have hspot:spot=none:=by simpa [Addr.add] using World.cell?_spot hc
     subst hspot;have hcell:∀i,i<l.length→w.cell? ⟨b,off+i*2,none⟩=some (.string (nm l i))∧w.cell? ⟨b,off+i*2+1,none⟩=some (.int .i64 (qn l i)):=fun i hi=>by
      have c:=(hall i hi).2;by_cases hi0:i=0
      · subst hi0;simpa [Addr.add] using c
      · have h2:¬i*2=0:=by omega
        simpa [Addr.add,h2] using c
     exact .inr ⟨b,off,rfl,World.block_lt_of_cell? _ _ (hcell 0 (by omega)).1,hcell⟩
theorem star : "*" ++ "errors.errorString" = "*errors.errorString":=by decide
theorem jbS (u:TypeId) (h:Tryz.prog.typeName? 3 u=some "*errors.errorString"):u=202 :=
 typeName_ptr_named (nm := "errors.errorString") (by rw[star];kernel_rfl) (by kernel_rfl) (by decide) u (by rw[star];exact h)
theorem jbO:(Rows.laid_internal_strconv_uint64pow10:DataW Unit)=Lib.tabData .u64 Lib.pow10Tab:=by kernel_rfl
theorem YU:Tryz.prog.globalNamed "strconv.ErrRange"=some 9:=by kernel_rfl
theorem jbi {W:World} (hL:laidMetH Tryz.prog Rows.ladderAnyRow.laid W) (hS:W.ShapedOpen Tryz.prog):j5 W:=by
 rw[MakeChecks.laidMetH_plain _ _ _ (by kernel_rfl)] at hL;have h3:laidMet Tryz.prog (("internal/strconv.uint64pow10",Rows.laid_internal_strconv_uint64pow10)::_) W:=hL.tail.tail;rw[jbO] at h3;refine⟨⟨?_,?_⟩,?_⟩
 · exact cell_of_shapedOpen_int (zero:=#[.int .i64 0]) (t:=3) hS (of_decide_eq_true (by kernel_rfl)) (by kernel_rfl) rfl (by kernel_rfl) (by kernel_rfl) Tryz.underlying3
 · have h5:laidMet Tryz.prog (("strconv.ErrRange",Rows.laid_strconv_ErrRange)::_) W:=hL.tail.tail.tail.tail;unfold Rows.laid_strconv_ErrRange at h5;obtain⟨a,s,hv,-⟩:=laid_sentinel h5 YU (by kernel_rfl) Tryz.underlying108 jbS Tryz.underlying202 Tryz.underlying204 rfl rfl Tryz.underlying9 jcR jbl;exact⟨_,by simpa using World.var?_cell YU hv 0,.inr ⟨_,_,rfl⟩⟩
 · exact Lib.tabIs_of_head qT (by kernel_rfl) Tryz.underlying170 Tryz.underlying138 (by kernel_rfl) (by kernel_rfl) h3
end Go.Proofs.YtnfojaidmnccoaaGreatDoor.Vec
namespace Go.Proofs.YtnfojaidmnccoaaGreatDoor
open Go.RowKit
structure ju (q:Nat) (vs:List Value) (W:World):Prop where
 at_:∀i v,vs[i]?=some v→W.cell? ⟨q,i,none⟩=some v
 free:∀i,W.frozen? ⟨q,i,none⟩=false
theorem ju.block {q:Nat} {vs:List Value} {W W':World} (h:ju q vs W) (e:W'.heap[q]?=W.heap[q]?):ju q vs W' :=
 ⟨fun i v hv=>(World.cell?_of_block (a:=⟨q,i,none⟩) e).trans (h.at_ i v hv),fun i=>(World.frozen?_of_block (a:=⟨q,i,none⟩) e).trans (h.free i)⟩
theorem ju.at3 {q:Nat} {a b c:Value} {r9:List Value} {W:World} (h:ju q (a::b::c::r9) W):W.cell? ⟨q,0,none⟩=some a∧W.cell? ⟨q,1,none⟩=some b∧W.cell? ⟨q,2,none⟩=some c:=⟨h.at_ 0 _ rfl,h.at_ 1 _ rfl,h.at_ 2 _ rfl⟩
theorem ju.at5 {q:Nat} {a b c d e:Value} {r9:List Value} {W:World} (h:ju q (a::b::c::d::e::r9) W):W.cell? ⟨q,0,none⟩=some a∧W.cell? ⟨q,1,none⟩=some b∧W.cell? ⟨q,2,none⟩=some c∧W.cell? ⟨q,3,none⟩=some d∧W.cell? ⟨q,4,none⟩=some e:=⟨h.at_ 0 _ rfl,h.at_ 1 _ rfl,h.at_ 2 _ rfl,h.at_ 3 _ rfl,h.at_ 4 _ rfl⟩
theorem ju.lt {q:Nat} {v:Value} {vs:List Value} {W:World} (h:ju q (v::vs) W):q<W.heap.size:=World.block_lt_of_cell? _ _ (h.at_ 0 v rfl)
theorem ju.kept {q:Nat} {v:Value} {vs:List Value} {W W':World} (h:ju q (v::vs) W) (k:Kept W W'):ju q (v::vs) W':=h.block (k.block q h.lt)
theorem jf (w:World) (v:Value) (vs:List Value) (T:TypeId) (W:World) (k:Kept (w.alloc (.cells (v::vs).toArray T)) W):ju w.heap.size (v::vs) W:=by
 have hh:=w.alloc_heap_new (.cells (v::vs).toArray T);have h:ju w.heap.size (v::vs) (w.alloc (.cells (v::vs).toArray T)):=⟨fun i u hu=>by rw[Lib.cell_of_heap hh];simpa using hu,fun i=>by
  unfold World.frozen?;rw[show (w.alloc (.cells (v::vs).toArray T)).heap[(⟨w.heap.size,i,none⟩:Addr).block]?=some (.cells (v::vs).toArray T) from hh];simp⟩
 exact h.kept k
theorem ju.set {q j:Nat} {u:Value} {vs:List Value} {W:World} (h:ju q vs W) (hj:j<vs.length):ju q (vs.set j u) (W.setCell ⟨q,j,none⟩ u):=by
 refine⟨fun i v hv=>?_,fun i=>by rw[World.frozen?_setCell];exact h.free i⟩;by_cases e:j=i
 · subst e;have hv':v=u:=by rw[List.getElem?_set_self hj] at hv;exact(Option.some.inj hv).symm
   subst hv';exact World.cell?_setCell_same _ _ _ (h.at_ j _ (List.getElem?_eq_getElem hj))
 · rw[List.getElem?_set_ne e] at hv;rw[World.cell?_setCell_other _ _ _ _ (by simp)];exact h.at_ i v hv
theorem Za (q:Nat):∀(vs:List Value) (o:Nat) (W:World),(W.setCells q o vs).heap.size=W.heap.size
 | [],_,_=>rfl
 | v::r,o,W=>by rw[World.setCells,Za q r];simp[World.setCell]
theorem JQ (q:Nat):∀(vs:List Value) (o:Nat) (W:World) (b:Nat),b≠q→(W.setCells q o vs).heap[b]?=W.heap[b]?
 | [],_,_,_,_=>rfl
 | v::r,o,W,b,h=>by rw[World.setCells,JQ q r _ _ b h];exact Below.heap_setCell W ⟨q,o,none⟩ v b h
theorem JK (q:Nat):∀(vs:List Value) (o:Nat) (W:World) (B:Nat) (w:World),B≤q→Below B w W→Below B w (W.setCells q o vs)
 | [],_,_,_,_,_,k=>k
 | v::r,o,W,B,w,h,k=>by rw[World.setCells];exact JK q r _ _ B w h (k.setCell (p:=⟨q,o,none⟩) h _)
structure jdq (q:Nat) (vs:List Value) (W W':World):Prop where
 cells:ju q vs W'
 size:W'.heap.size=W.heap.size
 far:∀b,b≠q→W'.heap[b]?=W.heap[b]?
 below:∀B w,B≤q→Below B w W→Below B w W'
theorem zo {q:Nat} {us vs:List Value} {W:World} (h:ju q us W) (hl:us.length=vs.length):jdq q vs W (W.setCells q 0 vs):=by
 refine⟨⟨fun i v hv=>?_,fun i=>by rw[World.frozen?_setCells];exact h.free i⟩,Za q vs 0 W,fun b hb=>JQ q vs 0 W b hb,fun B w hB k=>JK q vs 0 W B w hB k⟩;have hi:i<vs.length:=(List.getElem?_eq_some_iff.1 hv).1;have:=World.cell?_setCells_in q vs 0 W (fun j hj=>by rw[Nat.zero_add,h.at_ j _ (List.getElem?_eq_getElem (by omega))];rfl) i hi;rw[Nat.zero_add] at this;rw[this];obtain⟨_,e⟩:=List.getElem?_eq_some_iff.1 hv;rw[e]
abbrev RL:Type:=List (Int×Int×Int)
def I64 (x:Int):Prop:=-9223372036854775808≤x∧x≤9223372036854775807
theorem jcA (a b c:Int) (u:Value) (h:u ∈ [Value.int .i64 a,Value.int .i64 b,Value.int .i64 c]):u.oneCell'=true:=by
 have e:u=Value.int .i64 a∨u=Value.int .i64 b∨u=Value.int .i64 c:=by simpa using h
 rcases e with e | e | e<;>rw[e]<;>rfl
def jt:Lay (Int×Int×Int):={ m:=3,cs:=fun x=>[.int .i64 x.1,.int .i64 x.2.1,.int .i64 x.2.2],fine:=fun x=>I64 x.1∧I64 x.2.1∧I64 x.2.2,len:=fun _=>rfl,one:=fun x=>jcA x.1 x.2.1 x.2.2,pos:=by decide }
theorem j3.rung {w:World} {b off len:Nat} {l:RL} {k:Nat} (h:j3 jt w (some ⟨b,off,none⟩) len l) (hk:k<len) :
 ∃u c p:Int,l[k]?=some (u,c,p)∧l.drop k=(u,c,p)::l.drop (k+1)∧b<w.heap.size∧(I64 u∧I64 c∧I64 p) ∧
  w.cell? ⟨b,off+k*3,none⟩=some (.int .i64 u)∧w.cell? ⟨b,off+k*3+1,none⟩=some (.int .i64 c)∧w.cell? ⟨b,off+k*3+2,none⟩=some (.int .i64 p):=by
 obtain⟨⟨u,c,p⟩,h1,h2,h3,h4,h5⟩:=h.cells hk;exact⟨u,c,p,h1,h2,h3,h4,h5 0 _ rfl,h5 1 _ rfl,h5 2 _ rfl⟩
structure Lad where
 what:ByteArray
 unit:Vec.V
 rungs:RL
 lo:Int
 hi:Int
def Lad.zero:Lad:=⟨ByteArray.empty,[],[],0,0⟩
abbrev zz (n:Lad) (v1 v2:Value):Value:=.agg #[.string n.what,v1,v2,.int .i64 n.lo,.int .i64 n.hi]
structure jL (w:World) (v1 v2:Value) (n:Lad):Prop where
 size:n.what.size≤maxLen
 unit:Vec.Reads w v1 n.unit
 rungs:Reads jt w v2 n.rungs
 lo:I64 n.lo
 hi:I64 n.hi
theorem jL.kept {w w':World} {v1 v2:Value} {n:Lad} (h:jL w v1 v2 n) (k:Kept w w'):jL w' v1 v2 n:=⟨h.size,h.unit.kept k,h.rungs.kept k,h.lo,h.hi⟩
def Jc (w:World) (v:Value) (n:Lad):Prop:=∃v1 v2,v=zz n v1 v2∧jL w v1 v2 n
theorem Jc.kept {w w':World} {v:Value} {n:Lad} (h:Jc w v n) (k:Kept w w'):Jc w' v n:=by
 obtain⟨v1,v2,e,h⟩:=h;exact⟨v1,v2,e,h.kept k⟩
def orL:List Int→Int
 | []=>0
 | x::t=>if x≠0 then x else orL t
def zF (x:ByteArray):Int:=if isName x=true then 0 else 3
def jI (lo hi:Int):Int:=if lo<0∨hi<lo∨128<hi then 1 else 0
def ji (u c p:Int):Int:=if u<0∨p<0∨1000000<p∨c<0∨128<c then 1 else 0
def jaq:Option Int→Int→Bool
 | none,_=>false
 | some q,u=>decide (u≤q)
def jh:Option Int→RL→Int
 | _,[]=>0
 | prev,n::t=>if ji n.1 n.2.1 n.2.2≠0 then ji n.1 n.2.1 n.2.2 else if jaq prev n.1=true then 13 else jh (some n.1) t
def jM (l:RL):Int:=if 8<l.length then 4 else jh none l
def jP (n:Lad):Int:=orL [zF n.what,Vec.jc n.unit,jI n.lo n.hi,jM n.rungs]
def j0 (l:RL) (k:Nat):Option Int:=if k=0 then none else (l[k-1]?).map (·.1)
theorem zZ {p:Option Int} {n:Int×Int×Int} {t:RL} (h:ji n.1 n.2.1 n.2.2≠0):jh p (n::t)=ji n.1 n.2.1 n.2.2:=by rw[jh,if_pos h]
theorem Z6 {l:RL} {k:Nat} {n:Int×Int×Int} {t:RL} (hk:k=0) (h:ji n.1 n.2.1 n.2.2=0):jh (j0 l k) (n::t)=jh (some n.1) t:=by
 unfold j0;rw[if_pos hk,jh,if_neg (by rw[h];decide),if_neg (by simp[jaq])]
theorem YZ {l:RL} {k:Nat} {n q:Int×Int×Int} {t:RL} (hk:¬k=0) (hq:l[k-1]?=some q) (h:ji n.1 n.2.1 n.2.2=0):jh (j0 l k) (n::t)=if n.1≤q.1 then 13 else jh (some n.1) t:=by
 unfold j0;rw[if_neg hk,hq,jh,if_neg (by rw[h];decide)];simp only[Option.map_some,jaq,decide_eq_true_eq]
theorem Yi {l:RL} {k:Nat} {n:Int×Int×Int} (hn:l[k]?=some n):j0 l (k+1)=some n.1:=by unfold j0;rw[if_neg (by omega),Nat.add_sub_cancel,hn];rfl
open Go.ChangeShapes Go.WideShapes Go.ChangeAt Go.RowKit Go.Deep
theorem zC {α:Type} (L:Lay α) {t e:TypeId} (ht:Tryz.prog.underlying t=some (.slice e)) (hc:Tryz.prog.cellsOf e=L.m) {H:Type} {enc:TypeId×Value→H} {w:World} {base fuel:Nat} {sp:Nat→Bool} {held:Bool} {v:Value} {x:DataW H×List MemPlace}
 (el:∀(m:Nat) (cs:List Value) (x:DataW H×List MemPlace),DataW.trod enc Tryz.prog w base sp held m e cs=some x→∃a,cs=L.cs a∧L.fine a)
 (h:DataW.trod enc Tryz.prog w base sp held fuel t [v]=some x):∃l,Reads L w v l:=by
 rcases open_slice ht h with ⟨hcs,-⟩ | ⟨a,len,cap,m,n,D,Pl,hcs,hb,hl,hm,hmm,hx,hi⟩
 · cases hcs;exact⟨[],Reads.nil w⟩
 · cases hcs
   have hlm:len≤m:=by rw[hmm];split<;>omega
   have key:∀k,k≤len→∃l:List α,l.length=k∧(∀z ∈ l,L.fine z)∧∀i z j u,l[i]?=some z→(L.cs z)[j]?=some u→w.cell? ((a.add (i*L.m)).add j)=some u:=by
    intro k
    induction k with
    | zero=>exact fun _=>⟨[],rfl,(fun z hz=>by cases hz),(fun i z j u hi _=>by simp at hi)⟩
    | succ k ih =>
     intro hk;obtain⟨l,e,hfine,hall⟩:=ih (by omega);obtain⟨cs',hcc,ht'⟩:=hi k (by omega);obtain⟨z0,rfl,hz0⟩:=el _ _ _ ht';rw[hc] at hcc;obtain⟨-,-,hat⟩:=World.cells?_some hcc;refine⟨l++[z0],by simp[e],fun z hz=>?_,fun i z j u hi' hj=>?_⟩
     · rcases List.mem_append.1 hz with g | g
       · exact hfine z g
       · have:z=z0:=by simpa using g
         rw[this];exact hz0
     · by_cases e2:i=k
       · subst e2;have:z0=z:=by simpa [e] using hi'
         subst this;have hjl:j<L.m:=by have:=(List.getElem?_eq_some_iff.1 hj).1;rw[L.len] at this;exact this
         rw[hat j hjl];exact hj
       · have hik:i<l.length:=by have:=(List.getElem?_eq_some_iff.1 hi').1;simp at this;omega
         rw[List.getElem?_append_left hik] at hi';exact hall i z j u hi' hj
   obtain⟨l,e,hfine,hall⟩:=key len (Nat.le_refl _);subst e;refine⟨l,_,cap,rfl,hl,hm,rfl,Nat.le_trans hl hm,hfine,?_⟩;by_cases h0:l.length=0
   · exact .inl h0
   · obtain⟨b,off,spot⟩:=a;have hg:l[0]?=some (l[0]'(by omega)):=List.getElem?_eq_getElem (by omega);have hlz:=L.len (l[0]'(by omega));have hcz:(L.cs (l[0]'(by omega)))[0]?=some ((L.cs (l[0]'(by omega)))[0]'(by rw[hlz];exact L.pos)):=List.getElem?_eq_getElem (by rw[hlz];exact L.pos);have hcell0:=hall 0 _ 0 _ hg hcz;have hspot:spot=none:=by simpa [Addr.add] using World.cell?_spot hcell0
     subst hspot;have hcell:∀i z j u,l[i]?=some z→(L.cs z)[j]?=some u→w.cell? ⟨b,off+i*L.m+j,none⟩=some u:=fun i z j u hi' hj=>by
      have c:=hall i z j u hi' hj;have e:((⟨b,off,none⟩:Addr).add (i*L.m)).add j=⟨b,off+i*L.m+j,none⟩:=by
       unfold Addr.add;split<;>split<;>simp_all
      rw[e] at c;exact c
     exact .inr ⟨b,off,rfl,World.block_lt_of_cell? _ _ (hcell 0 _ 0 _ hg hcz),hcell⟩
theorem jbi {W:World} (hS:W.ShapedOpen Tryz.prog):Env W :=
 ⟨cell_of_shapedOpen_int (zero:=#[.int .i64 0]) (t:=3) hS (of_decide_eq_true (by kernel_rfl)) (by kernel_rfl) rfl (by kernel_rfl) (by kernel_rfl) Tryz.underlying3⟩
theorem jbV:Tryz.prog.cellsOf 9=1:=by kernel_rfl
theorem Z1:Tryz.prog.cellsOf 3=1:=by kernel_rfl
theorem Xy:Tryz.prog.cellsOf 2=1:=by kernel_rfl
theorem jbW:Tryz.prog.cellsOf 23=1:=by kernel_rfl
theorem jb6:Tryz.prog.cellsOf 24=1:=by kernel_rfl
theorem XW:Tryz.prog.cellsOf 46=3:=by kernel_rfl
theorem jb7:Tryz.prog.cellsOf 26=5:=by kernel_rfl
theorem Jb {n:Int} (h:(Lit.int .i64 n).wf=true):I64 n:=by
 have h2:IntKind.i64.min≤n∧n≤IntKind.i64.max:=by simpa [Lit.wf] using h
 exact h2
theorem XC {H:Type} {enc:TypeId×Value→H} {w:World} {base fuel:Nat} {sp:Nat→Bool} {held:Bool} {cs:List Value} {x:DataW H×List MemPlace} (h:DataW.trod enc Tryz.prog w base sp held fuel 46 cs=some x) :
 ∃a:Int×Int×Int,cs=jt.cs a∧jt.fine a:=by
 obtain⟨ys,m,-,-,hlen,hyl,hf⟩:=DataW.trod_struct Tryz.underlying46 h;rw[XW] at hlen
 match cs,hlen with
 | [c0,c1,c2],_ =>
  have h0:DataW.trod enc Tryz.prog w base sp held m 2 (([c0,c1,c2].drop 0).take (Tryz.prog.cellsOf 2))=ys[0]?:=hf 0 _ rfl;have h1:DataW.trod enc Tryz.prog w base sp held m 3 (([c0,c1,c2].drop 1).take (Tryz.prog.cellsOf 3))=ys[1]?:=hf 1 _ rfl;have h2:DataW.trod enc Tryz.prog w base sp held m 2 (([c0,c1,c2].drop 2).take (Tryz.prog.cellsOf 2))=ys[2]?:=hf 2 _ rfl;rw[Xy] at h0;rw[Z1] at h1;rw[Xy] at h2;obtain⟨y0,e0⟩:∃y,ys[0]?=some y:=⟨_,List.getElem?_eq_getElem (by rw[hyl];decide)⟩
  rw[e0] at h0;obtain⟨y1,e1⟩:∃y,ys[1]?=some y:=⟨_,List.getElem?_eq_getElem (by rw[hyl];decide)⟩
  rw[e1] at h1;obtain⟨y2,e2⟩:∃y,ys[2]?=some y:=⟨_,List.getElem?_eq_getElem (by rw[hyl];decide)⟩
  rw[e2] at h2;simp only[List.drop_zero,List.take_succ_cons,List.take_zero,List.drop_succ_cons] at h0 h1 h2;obtain⟨n0,q0,-,hw0⟩:=DataW.trod_int Tryz.underlying2 h0;obtain⟨n1,q1,-,hw1⟩:=DataW.trod_int Tryz.underlying3 h1;obtain⟨n2,q2,-,hw2⟩:=DataW.trod_int Tryz.underlying2 h2;simp only[List.cons.injEq,and_true] at q0 q1 q2;subst q0;subst q1;subst q2;exact⟨(n0,n1,n2),rfl,Jb hw0,Jb hw1,Jb hw2⟩
theorem Y6 {H:Type} {enc:TypeId×Value→H} {w:World} {base fuel:Nat} {sp:Nat→Bool} {held:Bool} {v:Value} {x:DataW H×List MemPlace} (h:DataW.trod enc Tryz.prog w base sp held fuel 24 [v]=some x):∃l,Reads jt w v l :=
 zC jt Tryz.underlying24 XW (fun _ _ _ h=>XC h) h
theorem qC {H:Type} {enc:TypeId×Value→H} {w:World} {base fuel:Nat} {sp:Nat→Bool} {held:Bool} {cs:List Value} {x:DataW H×List MemPlace} (h:DataW.trod enc Tryz.prog w base sp held fuel 26 cs=some x) :
 ∃n:Lad,∃v1 v2,cs=[.string n.what,v1,v2,.int .i64 n.lo,.int .i64 n.hi]∧jL w v1 v2 n:=by
 obtain⟨ys,m,-,-,hlen,hyl,hf⟩:=DataW.trod_struct Tryz.underlying26 h;rw[jb7] at hlen
 match cs,hlen with
 | [c0,c1,c2,c3,c4],_ =>
  have h0:DataW.trod enc Tryz.prog w base sp held m 9 (([c0,c1,c2,c3,c4].drop 0).take (Tryz.prog.cellsOf 9))=ys[0]?:=hf 0 _ rfl;have h1:DataW.trod enc Tryz.prog w base sp held m 23 (([c0,c1,c2,c3,c4].drop 1).take (Tryz.prog.cellsOf 23))=ys[1]?:=hf 1 _ rfl;have h2:DataW.trod enc Tryz.prog w base sp held m 24 (([c0,c1,c2,c3,c4].drop 2).take (Tryz.prog.cellsOf 24))=ys[2]?:=hf 2 _ rfl;have h3:DataW.trod enc Tryz.prog w base sp held m 3 (([c0,c1,c2,c3,c4].drop 3).take (Tryz.prog.cellsOf 3))=ys[3]?:=hf 3 _ rfl;have h4:DataW.trod enc Tryz.prog w base sp held m 3 (([c0,c1,c2,c3,c4].drop 4).take (Tryz.prog.cellsOf 3))=ys[4]?:=hf 4 _ rfl;rw[jbV] at h0;rw[jbW] at h1;rw[jb6] at h2;rw[Z1] at h3;rw[Z1] at h4;obtain⟨y0,e0⟩:∃y,ys[0]?=some y:=⟨_,List.getElem?_eq_getElem (by rw[hyl];decide)⟩
  rw[e0] at h0;obtain⟨y1,e1⟩:∃y,ys[1]?=some y:=⟨_,List.getElem?_eq_getElem (by rw[hyl];decide)⟩
  rw[e1] at h1;obtain⟨y2,e2⟩:∃y,ys[2]?=some y:=⟨_,List.getElem?_eq_getElem (by rw[hyl];decide)⟩
  rw[e2] at h2;obtain⟨y3,e3⟩:∃y,ys[3]?=some y:=⟨_,List.getElem?_eq_getElem (by rw[hyl];decide)⟩
  rw[e3] at h3;obtain⟨y4,e4⟩:∃y,ys[4]?=some y:=⟨_,List.getElem?_eq_getElem (by rw[hyl];decide)⟩
  rw[e4] at h4;simp only[List.drop_zero,List.take_succ_cons,List.take_zero,List.drop_succ_cons] at h0 h1 h2 h3 h4;obtain⟨s,q0,-,hs⟩:=DataW.trod_string Tryz.underlying9 h0;obtain⟨l1,r1⟩:=Vec.zC h1;obtain⟨l2,r2⟩:=Y6 h2;obtain⟨n3,q3,-,hw3⟩:=DataW.trod_int Tryz.underlying3 h3;obtain⟨n4,q4,-,hw4⟩:=DataW.trod_int Tryz.underlying3 h4;simp only[List.cons.injEq,and_true] at q0 q3 q4;subst q0;subst q3;subst q4;exact⟨⟨s,l1,l2,n3,n4⟩,c1,c2,rfl,hs,r1,r2,Jb hw3,Jb hw4⟩
theorem jch {H:Type} {enc:TypeId×Value→H} {W:World} {r:Reach} {b0 base:Nat} {sp:Nat→Bool} {held:Bool} {v:Value} {d:DataW H} {ps:List MemPlace} (hval:Value.okWide Tryz.prog W r b0 26 v) (h:DataW.Trod enc Tryz.prog W base sp held 26 v d ps):∃n,Jc W v n:=by
 obtain⟨cs,rfl,hsz⟩:=okWide_struct Tryz.underlying26 hval;obtain⟨fuel,hf⟩:=h;obtain⟨n,v1,v2,ha,hat⟩:=qC hf;have o1:v1.cells=#[v1]:=by obtain⟨_,_,rfl,-⟩:=hat.unit;rfl
 have o2:v2.cells=#[v2]:=by obtain⟨_,_,rfl,-⟩:=hat.rungs;rfl
 have e:cs.toList=[Value.string n.what,v1,v2,.int .i64 n.lo,.int .i64 n.hi]:=by
  have:(Value.agg cs).cells.toList=[Value.string n.what,v1,v2,.int .i64 n.lo,.int .i64 n.hi]:=ha;simpa [Value.cells] using this
 have:cs=#[Value.string n.what,v1,v2,.int .i64 n.lo,.int .i64 n.hi]:=Array.ext' e;rw[this];exact⟨n,v1,v2,rfl,hat⟩
def jb (c:UInt8):List UInt8→List (List UInt8)
 | []=>[[]]
 | b::t=>if b=c then []::jb c t else match jb c t with
  | []=>[[b]]
  | p::ps=>(b::p)::ps
theorem Z7 (c:UInt8) (l:List UInt8):jb c l≠[]:=by
 cases l with
 | nil=>simp[jb]
 | cons b t=>unfold jb;split;simp;split<;>simp
def splitB (c:UInt8) (s:List UInt8):List ByteArray:=(jb c s).map bytes
theorem Yk (c:UInt8):∀s:List UInt8,(splitB c s).length≤s.length+1
 | []=>by simp[splitB,jb]
 | b::t=>by
  have ih:=Yk c t;unfold splitB at ih ⊢;rw[jb];rw[List.length_map] at ih ⊢;split
  · simp;omega
  · cases h:jb c t with
    | nil=>simp
    | cons p ps=>rw[h] at ih;simp at ih ⊢;omega
theorem jO (c:UInt8):∀(s:List UInt8) (p:List UInt8),p ∈ jb c s→p.length≤s.length
 | [],p,h=>by
  have:p=[]:=by simpa [jb] using h
  subst this;simp
 | b::t,p,h=>by
  rw[jb] at h;split at h
  · rcases List.mem_cons.1 h with rfl | h
    · simp
    · have:=jO c t p h;simp;omega
  · cases hp:jb c t with
    | nil=>exact absurd hp (Z7 c t)
    | cons q qs =>
     rw[hp] at h;rcases List.mem_cons.1 h with rfl | h
     · have:=jO c t q (by rw[hp];simp);simp;omega
     · have:=jO c t p (by rw[hp];simp[h]);simp;omega
theorem index_one (c b:UInt8) (t:List UInt8):Lib.index (b::t) [c]=if b=c then 0 else if Lib.index t [c]==-1 then -1 else Lib.index t [c]+1:=by
 rw[Lib.index];by_cases h:b=c
 · subst h;rw[if_pos rfl,if_pos (by simp[List.isPrefixOf])]
 · rw[if_neg h,if_neg (by simp[List.isPrefixOf];exact fun e=>h e.symm)]
theorem Yv (c:UInt8):Lib.cut [] [c]=([],[],false):=by unfold Lib.cut;simp[Lib.index]
theorem Jr (c b:UInt8) (t:List UInt8):Lib.cut (b::t) [c]=if b=c then ([],t,true) else (b::(Lib.cut t [c]).1,(Lib.cut t [c]).2.1,(Lib.cut t [c]).2.2):=by
 have hge:=Lib.index_ge t [c];unfold Lib.cut;rw[index_one];by_cases h:b=c
 · subst h;simp
 · rw[if_neg h,if_neg h];by_cases h1:Lib.index t [c]=-1
   · rw[h1];simp
   · have h2:0≤Lib.index t [c]:=by omega
     obtain⟨i,hi⟩:=Int.eq_ofNat_of_zero_le h2;rw[hi];have e1:((i:Int)==-1)=false:=beq_eq_false_iff_ne.2 (by omega);rw[e1];have e2:(0:Int)≤(i:Int)+1:=by omega
     have e3:((i:Int)+1).toNat=i+1:=by omega
     simp[e2,e3]
theorem Zy {c:UInt8}:∀{x:List UInt8} (y:List UInt8),c ∉ x→Lib.cut (x++c::y) [c]=(x,y,true)
 | [],y,_=>by rw[List.nil_append,Jr,if_pos rfl]
 | b::t,y,h=>by
  rw[List.cons_append,Jr,if_neg (by intro e;exact h (by simp[e])),Zy y (by intro e;exact h (by simp[e]))]
theorem Zc (c:UInt8):∀p:List UInt8,jb c p=if (Lib.cut p [c]).2.2=true then (Lib.cut p [c]).1::jb c (Lib.cut p [c]).2.1 else [p]
 | []=>by rw[Yv];rfl
 | b::t=>by
  rw[jb,Jr];by_cases h:b=c
  · rw[if_pos h,if_pos h];rfl
  · rw[if_neg h,if_neg h,Zc c t];dsimp only;by_cases h1:(Lib.cut t [c]).2.2=true
    · rw[if_pos h1,if_pos h1]
    · rw[if_neg h1,if_neg h1]
theorem JU (c:UInt8):∀q:List UInt8,decide (0≤Lib.indexByte q c)=decide (c ∈ q)
 | []=>by simp[Lib.indexByte]
 | b::t=>by
  have ih:=JU c t;have hge:=Lib.indexByte_ge t c;rw[Lib.indexByte];by_cases h:b=c
  · subst h;simp
  · have e1:(b==c)=false:=by simpa using h
    rw[e1];have hm:decide (c ∈ b::t)=decide (c ∈ t):=by
     simp[List.mem_cons];intro e;exact absurd e.symm h
    rw[hm,←ih];by_cases h1:Lib.indexByte t c=-1
    · rw[h1];simp
    · have e2:(Lib.indexByte t c==-1)=false:=by simpa using h1
      rw[e2];have:0≤Lib.indexByte t c:=by omega
      simp[this];omega
theorem qP (c:UInt8) (s:List UInt8):((Lib.cut s [c]).2.2=false→Lib.index s [c]=-1)∧((Lib.cut s [c]).2.2=true→¬Lib.index s [c]=-1∧s.take ((Lib.index s [c]).toNat+0)=(Lib.cut s [c]).1∧s.drop ((Lib.index s [c]).toNat+[c].length)=(Lib.cut s [c]).2.1):=by
 have hge:=Lib.index_ge s [c];unfold Lib.cut;by_cases h:0≤Lib.index s [c]
 · rw[if_pos h];exact⟨(fun e=>by cases e),fun _=>⟨by omega,rfl,rfl⟩⟩
 · rw[if_neg h];exact⟨(fun _=>by omega),(fun e=>by cases e)⟩
theorem JY (c:UInt8) (s:List UInt8) (h:(Lib.cut s [c]).2.2=true):jb c s=(Lib.cut s [c]).1::jb c (Lib.cut s [c]).2.1:=by rw[Zc,if_pos h]
theorem JD (c:UInt8) (s:List UInt8) (h:(Lib.cut s [c]).2.2=false):jb c s=[s]:=by rw[Zc,if_neg (by rw[h];decide)]
theorem jaT (c:UInt8) (s:List UInt8):1≤(jb c s).length:=List.length_pos_iff.2 (Z7 c s)
theorem zQ (c:UInt8):∀(k:Nat) (s:List UInt8),((jb c s).length≤k+1→Lib.splitK [c] 0 k s=jb c s)∧(k+1<(jb c s).length→(Lib.splitK [c] 0 k s).length=k+1)
 | 0,s=>by
  rw[Lib.splitK];refine⟨fun h=>?_,fun _=>rfl⟩
  cases hf:(Lib.cut s [c]).2.2 with
  | false=>rw[JD c s hf]
  | true =>
   rw[JY c s hf] at h;have:=jaT c (Lib.cut s [c]).2.1;rw[List.length_cons] at h;omega
 | k+1,s=>by
  rw[Lib.splitK];obtain⟨h1,h2⟩:=qP c s
  cases hf:(Lib.cut s [c]).2.2 with
  | false =>
   rw[if_pos (beq_iff_eq.2 (h1 hf)),JD c s hf];exact⟨fun _=>rfl,fun h=>absurd h (by simp)⟩
  | true =>
   obtain⟨e0,e1,e2⟩:=h2 hf;rw[if_neg (fun e=>e0 (beq_iff_eq.1 e)),e1,e2,JY c s hf];obtain⟨i1,i2⟩:=zQ c k (Lib.cut s [c]).2.1;exact⟨fun h=>by rw[i1 (by simpa using h)],fun h=>by simp;exact i2 (by simpa using h)⟩
theorem Xs (c:UInt8) (s:List UInt8):(jb c s).length≤s.length+1:=by
 have:=Yk c s;unfold splitB at this;rwa [List.length_map] at this
theorem XE (c:UInt8) (k:Nat) (s:List UInt8):((jb c s).length=k→Lib.splitB ⟨#[c]⟩ 0 (min (k+1) ((bytes s).size+1)-1) (bytes s)=(jb c s).map bytes) ∧
 ((jb c s).length≠k→(Lib.splitB ⟨#[c]⟩ 0 (min (k+1) ((bytes s).size+1)-1) (bytes s)).length≠k):=by
 have hd:=Lib.splitB_data ⟨#[c]⟩ 0 (min (k+1) ((bytes s).size+1)-1) (bytes s);have hb:(bytes s).data.toList=s:=by simp[bytes]
 rw[hb] at hd;have hp:=Xs c s;have hsz:(bytes s).size=s.length:=jn s;rw[hsz] at hd ⊢;obtain⟨i1,i2⟩:=zQ c (min (k+1) (s.length+1)-1) s;refine⟨fun h=>?_,fun h h5=>?_⟩
 · have e:=i1 (by omega);have hd':(Lib.splitB ⟨#[c]⟩ 0 (min (k+1) (s.length+1)-1) (bytes s)).map (·.data.toList)=jb c s:=hd.trans e;rw[←hd',List.map_map];have:(bytes ∘ fun x:ByteArray=>x.data.toList)=id:=by
    funext x;cases x;simp[bytes]
   rw[this,List.map_id]
 · have hl:=congrArg List.length hd;rw[List.length_map,h5] at hl;by_cases hle:(jb c s).length≤min (k+1) (s.length+1)-1+1
   · have e:=i1 hle;have:(Lib.splitK [c] 0 (min (k+1) (s.length+1)-1) s).length=k:=hl.symm;rw[e] at this;exact h this
   · have:=i2 (by omega);have h3:(Lib.splitK [c] 0 (min (k+1) (s.length+1)-1) s).length=k:=hl.symm;omega
def Zx (c:UInt8) (k:Nat) (s:List UInt8) (w:World) (e:Ending) (w':World):Prop :=
 ((jb c s).length=k→∃g cap,e=.returned (.slice (some ⟨g,0,none⟩) k cap)∧w.heap.size≤g∧∀j p,(jb c s)[j]?=some p→w'.cell? ⟨g,j,none⟩=some (.string (bytes p))) ∧
 ((jb c s).length≠k→e=.panicked [jC 2])∧Kept w w'
theorem jav (s:List UInt8) (w:World) (hE:Env w) (hs:s.length≤1000000) :
 Calls Tryz.prog 94 #[.string (bytes s),.string ⟨#[47]⟩,.int .i64 2] w (Zx 47 2 s w):=by
 obtain⟨m,hm⟩:=hE.most;have Vg:=lH (Tryz.strings_SplitN (bytes s) ⟨#[47]⟩ 3 m w (by rw[jn];omega) hm (by decide) (by decide) (by decide));obtain⟨h5,hn5⟩:=XE 47 2 s;obtain⟨L,hL⟩:=eX (Lib.splitB ⟨#[47]⟩ 0 (min 3 ((bytes s).size+1)-1) (bytes s))
 obtain⟨n,hn⟩:=eX (min 3 ((bytes s).size+1))
 rw[hL] at h5 hn5 Vg;rw[hn] at Vg;have hcap:L.length≤n:=by
  rw[←hL,←hn];have:=Lib.splitB_length_le ⟨#[47]⟩ 0 (min 3 ((bytes s).size+1)-1) (bytes s);omega
 by_cases hp:(jb 47 s).length=2
 · have hLp:=h5 hp;have HP:=lH hp;obtain⟨ps,hps⟩:=eX (jb 47 s)
   have U3:=lH hps;rw[hps] at hp hLp;have hl5:L.length=2:=by rw[hLp,List.length_map,hp]
   rw[hl5] at Vg;have HC:=lH (show ∀j p,ps[j]?=some p→(w.alloc (.cells (Lib.cellsOf L n) 9)).cell? ⟨w.heap.size,j,none⟩=some (.string (bytes p)) from fun j p hj=>by
    have hh:=w.alloc_heap_new (.cells (Lib.cellsOf L n) 9);have hj5:j<L.length:=by have:=(List.getElem?_eq_some_iff.1 hj).1;omega
    have hLj:L[j]?=some (bytes p):=by rw[hLp,List.getElem?_map,hj];rfl
    rw[Lib.cell_of_heap hh];show (Lib.cellsOf L n)[j]?=some (.string (bytes p));unfold Lib.cellsOf;rw[List.getElem?_toArray,List.getElem?_append_left (by rw[List.length_map];exact hj5),List.getElem?_map,hLj];rfl)
   have hcap5:2≤n:=by omega
   clear h5 hn5 hcap hE hm hL hn hLp hl5 hp hps;go_enter Tryz.func94,Tryz.ntmps94;go_wp2_with fail
   refine Vg.out.mono ?_;rintro e w1 ⟨rfl,rfl⟩;go_wp2;go_ret;exact⟨fun _=>⟨_,_,rfl,Nat.le_refl _,by rw[U3.out];exact HC.out⟩,fun h=>absurd HP.out h,ja _ _⟩
 · obtain⟨k,hk⟩:=eX (L.length)
   have hk5:k≠2:=by rw[←hk];exact hn5 hp
   rw[hk] at Vg;have HP:=lH hp;have hb:((k:Int) != 2)=true:=by simp;omega
   clear h5 hn5 hcap hp hE hm hL hn hk hk5;go_enter Tryz.func94,Tryz.ntmps94;go_wp2_with fail
   refine Vg.out.mono ?_;rintro e w1 ⟨rfl,rfl⟩;go_wp2;exact⟨rfl,⟨fun h=>absurd h HP.out,fun _=>rfl,ja _ _⟩⟩
theorem jay (s:List UInt8) (w:World) (hE:Env w) (hs:s.length≤1000000) :
 Calls Tryz.prog 94 #[.string (bytes s),.string ⟨#[58]⟩,.int .i64 3] w (Zx 58 3 s w):=by
 obtain⟨m,hm⟩:=hE.most;have Vg:=lH (Tryz.strings_SplitN (bytes s) ⟨#[58]⟩ 4 m w (by rw[jn];omega) hm (by decide) (by decide) (by decide));obtain⟨h5,hn5⟩:=XE 58 3 s;obtain⟨L,hL⟩:=eX (Lib.splitB ⟨#[58]⟩ 0 (min 4 ((bytes s).size+1)-1) (bytes s))
 obtain⟨n,hn⟩:=eX (min 4 ((bytes s).size+1))
 rw[hL] at h5 hn5 Vg;rw[hn] at Vg;have hcap:L.length≤n:=by
  rw[←hL,←hn];have:=Lib.splitB_length_le ⟨#[58]⟩ 0 (min 4 ((bytes s).size+1)-1) (bytes s);omega
 by_cases hp:(jb 58 s).length=3
 · have hLp:=h5 hp;have HP:=lH hp;obtain⟨ps,hps⟩:=eX (jb 58 s)
   have U3:=lH hps;rw[hps] at hp hLp;have hl5:L.length=3:=by rw[hLp,List.length_map,hp]
   rw[hl5] at Vg;have HC:=lH (show ∀j p,ps[j]?=some p→(w.alloc (.cells (Lib.cellsOf L n) 9)).cell? ⟨w.heap.size,j,none⟩=some (.string (bytes p)) from fun j p hj=>by
    have hh:=w.alloc_heap_new (.cells (Lib.cellsOf L n) 9);have hj5:j<L.length:=by have:=(List.getElem?_eq_some_iff.1 hj).1;omega
    have hLj:L[j]?=some (bytes p):=by rw[hLp,List.getElem?_map,hj];rfl
    rw[Lib.cell_of_heap hh];show (Lib.cellsOf L n)[j]?=some (.string (bytes p));unfold Lib.cellsOf;rw[List.getElem?_toArray,List.getElem?_append_left (by rw[List.length_map];exact hj5),List.getElem?_map,hLj];rfl)
   have hcap5:3≤n:=by omega
   clear h5 hn5 hcap hE hm hL hn hLp hl5 hp hps;go_enter Tryz.func94,Tryz.ntmps94;go_wp2_with fail
   refine Vg.out.mono ?_;rintro e w1 ⟨rfl,rfl⟩;go_wp2;go_ret;exact⟨fun _=>⟨_,_,rfl,Nat.le_refl _,by rw[U3.out];exact HC.out⟩,fun h=>absurd HP.out h,ja _ _⟩
 · obtain⟨k,hk⟩:=eX (L.length)
   have hk5:k≠3:=by rw[←hk];exact hn5 hp
   rw[hk] at Vg;have HP:=lH hp;have hb:((k:Int) != 3)=true:=by simp;omega
   clear h5 hn5 hcap hp hE hm hL hn hk hk5;go_enter Tryz.func94,Tryz.ntmps94;go_wp2_with fail
   refine Vg.out.mono ?_;rintro e w1 ⟨rfl,rfl⟩;go_wp2;exact⟨rfl,⟨fun h=>absurd h HP.out,fun _=>rfl,ja _ _⟩⟩
def jK (c:UInt8) (k:Nat) (s:List UInt8):Bool:=decide ((jb c s).length=k)&&(jb c s).all Vec.jm
def ZT (c:UInt8) (k:Nat) (s:List UInt8) (w:World) (e:Ending) (w':World):Prop :=
 (jK c k s=true→∃g cap,e=.returned (.slice (some ⟨g,0,none⟩) k cap)∧∀j p,(jb c s)[j]?=some p→w'.cell? ⟨g,j,none⟩=some (.string (bytes p))) ∧
 (jK c k s=false→e=.panicked [jC 2])∧Kept w w'
theorem Xr {c:UInt8} {k:Nat} {s:List UInt8} (h:jK c k s=true):(jb c s).length=k∧∀p ∈ jb c s,Vec.jm p=true:=by
 unfold jK at h;rw[Bool.and_eq_true,decide_eq_true_eq,List.all_eq_true] at h;exact h
theorem Y1 {c:UInt8} {k j:Nat} {s p:List UInt8} (h:jK c k s=((jb c s).drop j).all Vec.jm) (hp:(jb c s).drop j=p::(jb c s).drop (j+1)) (hd:Vec.jm p=true):jK c k s=((jb c s).drop (j+1)).all Vec.jm:=by
 rw[h,hp,List.all_cons,hd,Bool.true_and]
theorem XB {c:UInt8} {k j:Nat} {s p:List UInt8} (h:jK c k s=((jb c s).drop j).all Vec.jm) (hp:(jb c s).drop j=p::(jb c s).drop (j+1)) (hd:Vec.jm p=false):jK c k s=false:=by
 rw[h,hp,List.all_cons,hd,Bool.false_and]
theorem X3 (s:List UInt8) (w:World) (hE:Env w) (hs:s.length≤1000000) :
 Calls Tryz.prog 70 #[.string (bytes s),.string ⟨#[47]⟩,.int .i64 2] w (ZT 47 2 s w):=by
 have Vg:=lH (jav s w hE hs);unfold Zx at Vg;have Vr:=lH (fun p (h:p ∈ jb 47 s)=>Nat.le_trans (jO 47 s p h) hs);clear hE hs;by_cases hp:(jb 47 s).length=2
 · have HP:=lH hp;have U4:=lH (show jK 47 2 s=((jb 47 s).drop 0).all Vec.jm by unfold jK;rw[hp];rfl);clear hp;go_enter Tryz.func70,Tryz.ntmps70;go_wp2_with fail
   refine Vg.out.mono ?_;rintro e w1 ⟨ha,-,hk⟩;obtain⟨g,cap,rfl,hg,hc⟩:=ha HP.out;have HC:=lH hc;have HK:=lH hk;clear ha hk hc hg Vg;go_wp2;go_loopw [16] (fun iv wr=>∃j:Nat,j≤2∧iv=.int .i64 j∧jK 47 2 s=((jb 47 s).drop j).all Vec.jm∧w1=wr) (fun iv _=>2-(intOf iv).toNat)
   case atStart=>exact⟨0,Nat.zero_le _,rfl,U4.out,rfl⟩
   case round =>
    obtain⟨j,hj,rfl,hd,rfl⟩:=hrel;have HD:=lH hd;clear hd;by_cases hlt:j<2
    · obtain⟨p,hpj⟩:∃p,(jb 47 s)[j]?=some p:=⟨_,List.getElem?_eq_getElem (by rw[HP.out];exact hlt)⟩
      have c0:=HC.out j p hpj;have Uv:=lH (show (jb 47 s).drop j=p::(jb 47 s).drop (j+1) by
       obtain⟨hh,e⟩:=List.getElem?_eq_some_iff.1 hpj;rw[List.drop_eq_getElem_cons hh,e])
      have U5:=lH (Vr.out p (List.mem_of_getElem? hpj));have hkk:(j:Int)<2:=by omega
      obtain⟨q,hq⟩:=eX (Vec.jm p)
      have HQ:=lH hq;have Uw:=lH (fun W=>show Calls Tryz.prog 95 #[.string (bytes p)] W fun e w'=>e=.returned (.bool q)∧W=w' by
       have:=Vec.Jl (bytes p) W (by rw[jn];have:=U5.out;unfold maxLen;omega);rw[Vec.z6,hq] at this;exact this)
      clear hpj hq
      cases q with
      | true =>
       go_wp2_with fail
       refine(Uw.out _).mono ?_;rintro e w2 ⟨rfl,rfl⟩;go_wp2;go_roundw
       case rel=>exact⟨j+1,by omega,by go_num,Y1 HD.out Uv.out HQ.out,trivial⟩
       case measure=>simp[intOf];omega
      | false =>
       have HF:=lH (XB HD.out Uv.out HQ.out);go_wp2_with fail
       refine(Uw.out _).mono ?_;rintro e w2 ⟨rfl,rfl⟩;go_wp2;exact⟨rfl,⟨fun h=>(by rw[HF.out] at h;cases h),fun _=>rfl,HK.out⟩⟩
    · have HT:=lH (show jK 47 2 s=true by rw[HD.out,List.drop_of_length_le (by rw[HP.out];omega)];rfl);obtain rfl:j=2:=by omega
      go_wp2;go_ret;exact⟨fun _=>⟨_,_,rfl,HC.out⟩,fun h=>(by rw[HT.out] at h;cases h),HK.out⟩
 · have HP:=lH hp;have HF:=lH (show jK 47 2 s=false by unfold jK;rw[decide_eq_false hp];rfl);clear hp;go_enter Tryz.func70,Tryz.ntmps70;go_wp2_with fail
   refine Vg.out.mono ?_;rintro e w1 ⟨-,hb,hk⟩;obtain rfl:=hb HP.out;have HK:=lH hk;clear hb hk;go_wp2;exact⟨rfl,⟨fun h=>(by rw[HF.out] at h;cases h),fun _=>rfl,HK.out⟩⟩
theorem XG (s:List UInt8) (w:World) (hE:Env w) (hs:s.length≤1000000) :
 Calls Tryz.prog 70 #[.string (bytes s),.string ⟨#[58]⟩,.int .i64 3] w (ZT 58 3 s w):=by
 have Vg:=lH (jay s w hE hs);unfold Zx at Vg;have Vr:=lH (fun p (h:p ∈ jb 58 s)=>Nat.le_trans (jO 58 s p h) hs);clear hE hs;by_cases hp:(jb 58 s).length=3
 · have HP:=lH hp;have U4:=lH (show jK 58 3 s=((jb 58 s).drop 0).all Vec.jm by unfold jK;rw[hp];rfl);clear hp;go_enter Tryz.func70,Tryz.ntmps70;go_wp2_with fail
   refine Vg.out.mono ?_;rintro e w1 ⟨ha,-,hk⟩;obtain⟨g,cap,rfl,hg,hc⟩:=ha HP.out;have HC:=lH hc;have HK:=lH hk;clear ha hk hc hg Vg;go_wp2;go_loopw [16] (fun iv wr=>∃j:Nat,j≤3∧iv=.int .i64 j∧jK 58 3 s=((jb 58 s).drop j).all Vec.jm∧w1=wr) (fun iv _=>3-(intOf iv).toNat)
   case atStart=>exact⟨0,Nat.zero_le _,rfl,U4.out,rfl⟩
   case round =>
    obtain⟨j,hj,rfl,hd,rfl⟩:=hrel;have HD:=lH hd;clear hd;by_cases hlt:j<3
    · obtain⟨p,hpj⟩:∃p,(jb 58 s)[j]?=some p:=⟨_,List.getElem?_eq_getElem (by rw[HP.out];exact hlt)⟩
      have c0:=HC.out j p hpj;have Uv:=lH (show (jb 58 s).drop j=p::(jb 58 s).drop (j+1) by
       obtain⟨hh,e⟩:=List.getElem?_eq_some_iff.1 hpj;rw[List.drop_eq_getElem_cons hh,e])
      have U5:=lH (Vr.out p (List.mem_of_getElem? hpj));have hkk:(j:Int)<3:=by omega
      obtain⟨q,hq⟩:=eX (Vec.jm p)
      have HQ:=lH hq;have Uw:=lH (fun W=>show Calls Tryz.prog 95 #[.string (bytes p)] W fun e w'=>e=.returned (.bool q)∧W=w' by
       have:=Vec.Jl (bytes p) W (by rw[jn];have:=U5.out;unfold maxLen;omega);rw[Vec.z6,hq] at this;exact this)
      clear hpj hq
      cases q with
      | true =>
       go_wp2_with fail
       refine(Uw.out _).mono ?_;rintro e w2 ⟨rfl,rfl⟩;go_wp2;go_roundw
       case rel=>exact⟨j+1,by omega,by go_num,Y1 HD.out Uv.out HQ.out,trivial⟩
       case measure=>simp[intOf];omega
      | false =>
       have HF:=lH (XB HD.out Uv.out HQ.out);go_wp2_with fail
       refine(Uw.out _).mono ?_;rintro e w2 ⟨rfl,rfl⟩;go_wp2;exact⟨rfl,⟨fun h=>(by rw[HF.out] at h;cases h),fun _=>rfl,HK.out⟩⟩
    · have HT:=lH (show jK 58 3 s=true by rw[HD.out,List.drop_of_length_le (by rw[HP.out];omega)];rfl);obtain rfl:j=3:=by omega
      go_wp2;go_ret;exact⟨fun _=>⟨_,_,rfl,HC.out⟩,fun h=>(by rw[HT.out] at h;cases h),HK.out⟩
 · have HP:=lH hp;have HF:=lH (show jK 58 3 s=false by unfold jK;rw[decide_eq_false hp];rfl);clear hp;go_enter Tryz.func70,Tryz.ntmps70;go_wp2_with fail
   refine Vg.out.mono ?_;rintro e w1 ⟨-,hb,hk⟩;obtain rfl:=hb HP.out;have HK:=lH hk;clear hb hk;go_wp2;exact⟨rfl,⟨fun h=>(by rw[HF.out] at h;cases h),fun _=>rfl,HK.out⟩⟩
theorem JB (s:List UInt8) (w:World) (hE:Env w) (hs:s.length≤1000000):Calls Tryz.prog 96 #[.string (bytes s)] w (ZT 58 3 s w):=by
 have H:=lH (XG s w hE hs);unfold ZT at H;clear hE hs;obtain⟨q,hq⟩:=eX (jK 58 3 s)
 have HQ:=lH hq;clear hq
 cases q with
 | true =>
  go_enter Tryz.func96,Tryz.ntmps96;go_wp2_with fail
  refine H.out.mono ?_;rintro e w1 ⟨ha,-,hk⟩;obtain⟨g,cap,rfl,hc⟩:=ha HQ.out;have HC:=lH hc;have HK:=lH hk;clear ha hk hc;go_wp2;go_ret;exact⟨fun _=>⟨_,_,rfl,HC.out⟩,fun h=>(by rw[HQ.out] at h;cases h),HK.out⟩
 | false =>
  go_enter Tryz.func96,Tryz.ntmps96;go_wp2_with fail
  refine H.out.mono ?_;rintro e w1 ⟨-,hb,hk⟩;obtain rfl:=hb HQ.out;have HK:=lH hk;clear hb hk;go_wp2;exact⟨rfl,⟨fun h=>(by rw[HQ.out] at h;cases h),fun _=>rfl,HK.out⟩⟩
def inQ (p:List UInt8):Bool:=decide (Vec.valL p≤9223372036854775807)
def Z2 (p:List UInt8) (w:World) (e:Ending) (w':World):Prop:=e=(if inQ p=true then .returned (.int .i64 (Vec.valL p:Int)) else .panicked [jC 5])∧Kept w w'
theorem ZY (p:List UInt8) (w:World) (hE:Vec.Env w) (hp:p.length≤1000000) (hd:Vec.jm p=true):Calls Tryz.prog 97 #[.string (bytes p)] w (Z2 p w):=by
 by_cases h:Vec.valL p≤9223372036854775807
 · refine(Vec.qJ p w hp hd h).mono ?_;rintro e w' ⟨rfl,k⟩;exact⟨by rw[if_pos (by unfold inQ;exact decide_eq_true h)],k⟩
 · refine(Vec.Y0 p w hE hp hd h).mono ?_;rintro e w' ⟨rfl,k⟩;exact⟨by rw[if_neg (by unfold inQ;rw[decide_eq_false h];decide)],k⟩
theorem JH (p:List UInt8) (w:World) (hE:Vec.Env w) (hp:p.length≤1000000) (hd:Vec.jm p=true):Calls Tryz.prog 72 #[.string (bytes p)] w (Z2 p w):=by
 have H:=lH (ZY p w hE hp hd);unfold Z2 at H;obtain⟨q,hq⟩:=eX (inQ p)
 rw[hq] at H;have HQ:=lH hq;obtain⟨v,hv⟩:=eX (Vec.valL p)
 rw[hv] at H;have HV:=lH hv;clear hE hp hd
 cases q with
 | true =>
  have hle:v≤9223372036854775807:=by unfold inQ at hq;rw[hv] at hq;exact of_decide_eq_true hq
  have hmn:min (v:Int) 9223372036854775807=(v:Int):=by omega
  clear hq hv;go_enter Tryz.func72,Tryz.ntmps72;go_wp2_with fail
  refine H.out.mono ?_;rintro e w1 ⟨he,hk⟩;obtain rfl:e=.returned (.int .i64 (v:Int)):=he;have HK:=lH hk;clear hk;go_wp2;go_ret;refine⟨?_,HK.out⟩;rw[HQ.out,HV.out];first | rfl | (simp;omega)
 | false =>
  clear hq hv;go_enter Tryz.func72,Tryz.ntmps72;go_wp2_with fail
  refine H.out.mono ?_;rintro e w1 ⟨he,hk⟩;obtain rfl:e=.panicked [jC 5]:=he;have HK:=lH hk;clear hk;go_wp2;refine⟨rfl,?_,HK.out⟩;rw[HQ.out];rfl
def jX (p:List UInt8) (i:Nat):List UInt8:=(jb 58 p).getD i []
def jF (p:List UInt8):Int×Int×Int:=((Vec.valL (jX p 0):Int),(Vec.valL (jX p 1):Int),(Vec.valL (jX p 2):Int))
def zr (p:List UInt8):Bool:=inQ (jX p 0)&&(inQ (jX p 1)&&inQ (jX p 2))
def qI (p:List UInt8) (w:World) (e:Ending) (w':World):Prop:=(zr p=true→e=.returned (.agg #[.int .i64 (jF p).1,.int .i64 (jF p).2.1,.int .i64 (jF p).2.2]))∧(zr p=false→e=.panicked [jC 5])∧Kept w w'
theorem JI {p:List UInt8} (h:(jb 58 p).length=3) (i:Nat) (hi:i<3):(jb 58 p)[i]?=some (jX p i):=by
 unfold jX;rw[List.getElem?_eq_getElem (by omega)];simp[List.getD,show i<(jb 58 p).length by omega]
theorem qw (p:List UInt8) (h:zr p=true):I64 (jF p).1∧I64 (jF p).2.1∧I64 (jF p).2.2:=by
 unfold zr inQ at h;simp only[Bool.and_eq_true,decide_eq_true_eq] at h;obtain⟨h1,h2,h3⟩:=h;unfold jF I64;exact⟨⟨by dsimp only;omega,by dsimp only;omega⟩,⟨by dsimp only;omega,by dsimp only;omega⟩,⟨by dsimp only;omega,by dsimp only;omega⟩⟩
theorem jaz (p:List UInt8) (w:World) (hE:Vec.Env w) (hp:p.length≤1000000) (hd:jK 58 3 p=true):Calls Tryz.prog 98 #[.string (bytes p)] w (qI p w):=by
 obtain⟨W0,hW0⟩:=eX (w.alloc (.cells #[.int .i64 0,.int .i64 0,.int .i64 0] 46))
 have hk0:Kept w W0:=by rw[←hW0];exact ja _ _
 have HZ:=lH (jf w (.int .i64 0) [.int .i64 0,.int .i64 0] 46 W0 (by rw[hW0];exact Kept.refl _));obtain⟨zb,hzb⟩:=eX (w.heap.size)
 rw[hzb] at HZ;have TN:=lH hzb;have HN:=lH (JB p W0 (hE.kept hk0).base hp);unfold ZT at HN;obtain⟨h3,hall⟩:=Xr hd;have HT:=lH hd;have HK:=lH hk0;have hm0:=List.mem_of_getElem? (JI h3 0 (by decide));have H0:=lH (fun W (k:Kept w W)=>ZY (jX p 0) W (hE.kept k) (Nat.le_trans (jO 58 p _ hm0) hp) (hall _ hm0));have Un:=lH (JI h3 0 (by decide));unfold Z2 at H0;have hm1:=List.mem_of_getElem? (JI h3 1 (by decide));have H1:=lH (fun W (k:Kept w W)=>JH (jX p 1) W (hE.kept k) (Nat.le_trans (jO 58 p _ hm1) hp) (hall _ hm1));have VG:=lH (JI h3 1 (by decide));unfold Z2 at H1;have hm2:=List.mem_of_getElem? (JI h3 2 (by decide));have H2:=lH (fun W (k:Kept w W)=>ZY (jX p 2) W (hE.kept k) (Nat.le_trans (jO 58 p _ hm2) hp) (hall _ hm2));have Ub:=lH (JI h3 2 (by decide));unfold Z2 at H2;have Vy:=lH (show zr p=(inQ (jX p 0)&&(inQ (jX p 1)&&inQ (jX p 2))) from rfl);have VH:=lH (show jF p=((Vec.valL (jX p 0):Int),(Vec.valL (jX p 1):Int),(Vec.valL (jX p 2):Int)) from rfl);obtain⟨n0,hn0⟩:=eX (jX p 0)
 rw[hn0] at H0 Un Vy VH;obtain⟨q0,hq0⟩:=eX (inQ n0)
 obtain⟨v0,hv0⟩:=eX (Vec.valL n0)
 rw[hq0] at Vy H0;rw[hv0] at VH H0;clear hn0 hq0 hv0 hm0;obtain⟨n1,hn1⟩:=eX (jX p 1)
 rw[hn1] at H1 VG Vy VH;obtain⟨q1,hq1⟩:=eX (inQ n1)
 obtain⟨v1,hv1⟩:=eX (Vec.valL n1)
 rw[hq1] at Vy H1;rw[hv1] at VH H1;clear hn1 hq1 hv1 hm1;obtain⟨n2,hn2⟩:=eX (jX p 2)
 rw[hn2] at H2 Ub Vy VH;obtain⟨q2,hq2⟩:=eX (inQ n2)
 obtain⟨v2,hv2⟩:=eX (Vec.valL n2)
 rw[hq2] at Vy H2;rw[hv2] at VH H2;clear hn2 hq2 hv2 hm2;clear hE hd h3 hall hk0;go_enter Tryz.func98,Tryz.ntmps98;go_wp2_with fail
 try rw[hW0]
 try rw[hzb]
 clear hW0 hzb;refine HN.out.mono ?_;rintro e w1 ⟨ha,-,hk⟩;obtain⟨g,cap,rfl,hc⟩:=ha HT.out;obtain⟨HC,HZ,HK⟩:=lH3 (show ∀W,Kept w1 W→W.cell? ⟨g,0,none⟩=some (.string (bytes n0))∧W.cell? ⟨g,1,none⟩=some (.string (bytes n1))∧W.cell? ⟨g,2,none⟩=some (.string (bytes n2)) from fun W k=>⟨cell_later k (hc 0 _ Un.out),cell_later k (hc 1 _ VG.out),cell_later k (hc 2 _ Ub.out)⟩) (HZ.out.kept hk) (HK.out.trans hk);clear ha hk hc HN;go_upto_region 2 with fail
 have J:=lH (Kept.drew w1);refine wp_region_held_drew (S:=fun W=>W.cell? ⟨g,0,none⟩=some (.string (bytes n0))∧W.cell? ⟨g,1,none⟩=some (.string (bytes n1))∧W.cell? ⟨g,2,none⟩=some (.string (bytes n2))) (by kernel_rfl) (HC.out _ J.out) (fun hHeld=>?_);obtain⟨wd,hwd⟩:=eX (w1.drew)
 rw[hwd] at J hHeld;try rw[hwd]
 clear hwd;refine tR 0 rfl (by kernel_rfl) (fun _ _ _=>id) (Or.inl ⟨by rfl,by rintro W ⟨o0,o1,o2⟩;go_simp<;>with_reducible rfl⟩) ‹_› ?_;try simp only[nA,nB,nC,nD,nE]
 refine tR 1 rfl (by kernel_rfl) (fun _ _ _=>id) (Or.inl ⟨by rfl,by rintro W ⟨o0,o1,o2⟩;go_simp<;>with_reducible rfl⟩) ‹_› ?_;try simp only[nA,nB,nC,nD,nE]
 refine tR 2 rfl (by kernel_rfl) (fun _ _ _=>id) (Or.inl ⟨by rfl,by rintro W ⟨o0,o1,o2⟩;go_simp<;>with_reducible rfl⟩) ‹_› ?_;try simp only[nA,nB,nC,nD,nE]
 refine tR 4 rfl (by kernel_rfl) (fun _ _ _=>id) (Or.inl ⟨by rfl,by rintro W ⟨o0,o1,o2⟩;go_simp<;>with_reducible rfl⟩) ‹_› ?_;try simp only[nA,nB,nC,nD,nE]
 refine tR 5 rfl (by kernel_rfl) (fun _ _ _=>id) (Or.inl ⟨by rfl,by rintro W ⟨o0,o1,o2⟩;go_simp<;>with_reducible rfl⟩) ‹_› ?_;try simp only[nA,nB,nC,nD,nE]
 refine tR 6 rfl (by kernel_rfl) (fun _ _ _=>id) (Or.inl ⟨by rfl,by rintro W ⟨o0,o1,o2⟩;go_simp<;>with_reducible rfl⟩) ‹_› ?_;try simp only[nA,nB,nC,nD,nE]
 refine tR 8 rfl (by kernel_rfl) (fun _ _ _=>id) (Or.inl ⟨by rfl,by rintro W ⟨o0,o1,o2⟩;go_simp<;>with_reducible rfl⟩) ‹_› ?_;try simp only[nA,nB,nC,nD,nE]
 refine tR 9 rfl (by kernel_rfl) (fun _ _ _=>id) (Or.inl ⟨by rfl,by rintro W ⟨o0,o1,o2⟩;go_simp<;>with_reducible rfl⟩) ‹_› ?_;try simp only[nA,nB,nC,nD,nE]
 refine tR 10 rfl (by kernel_rfl) (fun _ _ _=>id) (Or.inl ⟨by rfl,by rintro W ⟨o0,o1,o2⟩;go_simp<;>with_reducible rfl⟩) ‹_› ?_;try simp only[nA,nB,nC,nD,nE]
 refine rd1 3 fun K9 Ky=>?_;go_simp;refine(H0.out _ (HK.out.trans J.out)).mono ?_;rintro e w2 ⟨he,kk⟩
 cases q0 with
 | false =>
  obtain rfl:e=.panicked [jC 5]:=he;exact⟨rfl,⟨fun h=>(by rw[Vy.out] at h;simp at h),fun _=>rfl,HK.out.trans (J.out.trans kk)⟩⟩
 | true =>
  obtain rfl:e=.returned (.int .i64 (v0:Int)):=he;have J:=lH (J.out.trans kk);clear kk;refine Ky.out _ _ (HC.out _ J.out) (fun _=>?_);clear Ky K9;try simp only[nA,nB,nC,nD,nE]
  refine rd1 7 fun K9 Ky=>?_;go_simp;refine(H1.out _ (HK.out.trans J.out)).mono ?_;rintro e w3 ⟨he,kk⟩
  cases q1 with
  | false =>
   obtain rfl:e=.panicked [jC 5]:=he;exact⟨rfl,⟨fun h=>(by rw[Vy.out] at h;simp at h),fun _=>rfl,HK.out.trans (J.out.trans kk)⟩⟩
  | true =>
   obtain rfl:e=.returned (.int .i64 (v1:Int)):=he;have J:=lH (J.out.trans kk);clear kk;refine Ky.out _ _ (HC.out _ J.out) (fun _=>?_);clear Ky K9;try simp only[nA,nB,nC,nD,nE]
   refine rd1 11 fun K9 Ky=>?_;go_simp;refine(H2.out _ (HK.out.trans J.out)).mono ?_;rintro e w4 ⟨he,kk⟩
   cases q2 with
   | false =>
    obtain rfl:e=.panicked [jC 5]:=he;exact⟨rfl,⟨fun h=>(by rw[Vy.out] at h;simp at h),fun _=>rfl,HK.out.trans (J.out.trans kk)⟩⟩
   | true =>
    obtain rfl:e=.returned (.int .i64 (v2:Int)):=he;have J:=lH (J.out.trans kk);clear kk;refine Ky.out _ _ (HC.out _ J.out) (fun _=>?_);clear Ky K9;try simp only[nA,nB,nC,nD,nE]
    refine tR 12 rfl (by kernel_rfl) (fun _ _ _=>id) (Or.inl ⟨by rfl,by rintro W ⟨o0,o1,o2⟩;go_simp<;>with_reducible rfl⟩) ‹_› ?_;try simp only[nA,nB,nC,nD,nE]
    have HZ:=lH (HZ.out.kept J.out);obtain⟨z0,z1,z2⟩:=HZ.out.at3;have f0:=HZ.out.free 0;have f1:=HZ.out.free 1;have f2:=HZ.out.free 2;have P:=lH (zo (vs:=[.int .i64 (v0:Int),.int .i64 (v1:Int),.int .i64 (v2:Int)]) HZ.out rfl);refine rd1 13 fun K9 Ky=>?_;go_simp;obtain⟨WE,hWE⟩:=eX (w4.setCells zb 0 [.int .i64 (v0:Int),.int .i64 (v1:Int),.int .i64 (v2:Int)])
    have hWE2:(((w4.setCell ⟨zb,0,none⟩ (.int .i64 (v0:Int))).setCell ⟨zb,1,none⟩ (.int .i64 (v1:Int))).setCell ⟨zb,2,none⟩ (.int .i64 (v2:Int)))=WE:=hWE;rw[hWE] at P;try rw[hWE2]
    have hne:g≠zb:=fun e=>by
     obtain⟨c0,-,-⟩:=HC.out _ J.out;rw[e,z0] at c0
     cases c0
    have HG:=lH (show WE.cell? ⟨g,0,none⟩=some (.string (bytes n0))∧WE.cell? ⟨g,1,none⟩=some (.string (bytes n1))∧WE.cell? ⟨g,2,none⟩=some (.string (bytes n2)) by
     have e:∀j,WE.cell? ⟨g,j,none⟩=w4.cell? ⟨g,j,none⟩:=fun j=>World.cell?_of_block (a:=⟨g,j,none⟩) (P.out.far g hne);simp only[e];exact HC.out _ J.out)
    clear hWE hWE2 z0 z1 z2 f0 f1 f2 hne;refine Ky.out _ _ (HG.out) (fun _=>?_);clear Ky K9;try simp only[nA,nB,nC,nD,nE]
    refine wpAnyH_done (by kernel_rfl) ?_ _;go_wp2;have PC:=P.out.cells;refine bodyPost_ret (by simp[results,Tryz.results98,go_sem,PC.at_ 0 _ rfl,PC.at_ 1 _ rfl,PC.at_ 2 _ rfl];try rfl) rfl ?_;exact⟨fun _=>by rw[VH.out],fun h=>(by rw[Vy.out] at h;cases h),P.out.below _ _ (by rw[TN.out];exact Nat.le_refl _) (HK.out.trans J.out)⟩
open Go.RowKit Go.Shelf
theorem Xh (sep c:UInt8) (t:List UInt8):jb sep (c::t)=if c=sep then []::jb sep t else match jb sep t with
 | []=>[[c]]
 | p::ps=>(c::p)::ps:=rfl
theorem YQ (sep c:UInt8) (t:List UInt8):Lib.index (c::t) [sep]=if c=sep then 0 else if Lib.index t [sep]==-1 then -1 else Lib.index t [sep]+1:=by
 rw[Lib.index];by_cases h:c=sep
 · subst h;rw[if_pos rfl,if_pos (by simp[List.isPrefixOf])]
 · rw[if_neg h,if_neg (by simp[List.isPrefixOf];exact fun e=>h e.symm)]
theorem ZK (sep:UInt8):∀(l:List UInt8),Lib.index l [sep]<0→jb sep l=[l]
 | [],_=>rfl
 | c::t,h=>by
  rw[YQ] at h;by_cases hc:c=sep
  · rw[if_pos hc] at h;omega
  · rw[if_neg hc] at h;have ht:Lib.index t [sep]<0:=by
     split at h
     · rename_i e;have:Lib.index t [sep]=-1:=by simpa using e
       omega
     · omega
    unfold jb;rw[if_neg hc,ZK sep t ht]
theorem ZP (sep:UInt8):∀(l:List UInt8) (i:Nat),Lib.index l [sep]=(i:Int)→i<l.length∧jb sep l=l.take i::jb sep (l.drop (i+1))
 | [],i,h=>by simp[Lib.index] at h
 | c::t,i,h=>by
  rw[YQ] at h;by_cases hc:c=sep
  · rw[if_pos hc] at h;obtain rfl:i=0:=by omega
    refine⟨by simp,?_⟩;rw[Xh,if_pos hc];rfl
  · rw[if_neg hc] at h;split at h
    · omega
    · rename_i e;have hge:=Lib.index_ge t [sep];have hne:Lib.index t [sep]≠-1:=by simpa using e
      obtain⟨j,hj⟩:=Int.eq_ofNat_of_zero_le (show 0≤Lib.index t [sep] by omega);obtain⟨h1,h2⟩:=ZP sep t j hj;obtain rfl:i=j+1:=by omega
      refine⟨by simpa using h1,?_⟩;rw[jb,if_neg hc,h2];simp
theorem qA (sep:UInt8) (n:Nat) (hn:1≤n) (l b1 b2 b3:Nat) (s:List UInt8) (hs:s.length≤1000000) (J:Nat→World→Prop) (Jp:List PanicEntry→World→Prop)
 (hY:jbf Fence.wide n l b1 b2 b3 (jb sep s) J Jp) (h12:b1≠b2) (h32:b3≠b2) (W:World)
 (c1:W.cell? ⟨b1,0,none⟩=some (.string ⟨#[sep]⟩)) (c2:W.cell? ⟨b2,0,none⟩=some (.string (bytes s))) (c3:W.cell? ⟨b3,0,none⟩=some (.int .i64 0))
 (z2:W.frozen? ⟨b2,0,none⟩=false) (h0:J 0 W) :
 CallsIn Fence.wide n Tryz.prog 128 #[.func (.yield l) #[] #[],.pointer (some ⟨b1,0,none⟩),.pointer (some ⟨b2,0,none⟩),.pointer (some ⟨b3,0,none⟩)] W (ZX (jb sep s).length J Jp):=by
 have HY:=lH hY;have H0:=lH h0;clear hY h0;refine callsIn_of_wp Tryz.func128 rfl trivial ?_ rfl;simp only[Tryz.ntmps128,List.size_toArray,List.length_cons,List.length_nil,Nat.reduceAdd,Nat.reduceSub,Array.replicate_succ,Array.replicate_zero,List.push_toArray,List.append_toArray,List.nil_append,List.cons_append];gi_wp2
 gi_loopw [7] (fun i wr=>∃(k:Nat) (rest:List UInt8),jb sep rest=(jb sep s).drop k∧rest.length≤s.length∧wr.cell? ⟨b1,0,none⟩=some (.string ⟨#[sep]⟩)∧wr.cell? ⟨b2,0,none⟩=some (.string (bytes rest))∧wr.cell? ⟨b3,0,none⟩=some (.int .i64 0)∧wr.frozen? ⟨b2,0,none⟩=false∧J k wr)
  (fun i wr=>Yc wr b2)
 case atStart=>exact⟨0,s,rfl,Nat.le_refl _,c1,c2,c3,z2,H0.out⟩
 case round =>
  obtain⟨k,rest,hp,hl,c1,c2,c3,z2,hJ⟩:=hrel;have HJ:=lH hJ;have HP:=lH hp;have hl6:rest.length≤1000000:=Nat.le_trans hl hs;have hsz:(bytes rest).size=rest.length:=by simp[bytes,ByteArray.size]
  have Vq:=lH hsz;obtain⟨m,hm⟩:=HY.out.env k wr hJ;by_cases hix:Lib.index rest [sep]<0
  · have hone:=ZK sep rest hix;have IX:=lH (show Calls Tryz.prog 127 #[.string (bytes rest),.string ⟨#[sep]⟩] wr fun e w'=>e=.returned (.int .i64 (Lib.index rest [sep]))∧w'=wr from Tryz.strings_Index (bytes rest) ⟨#[sep]⟩ m wr (by omega) hm);have hk:(jb sep s)[k]?=some rest:=by
     have:=congrArg (fun x=>x[0]?) hp;rw[hone] at this;simpa using this.symm
    have HN:=lH (show k+1=(jb sep s).length by
     have:=congrArg List.length hp;rw[hone,List.length_drop] at this;simp only[List.length_cons,List.length_nil] at this;omega)
    obtain⟨fn,tmps,assign,body,hy,hR⟩:=HY.out.yields k rest wr hk hJ;have HR:=lH hR;obtain⟨ix,hixe⟩:=eX (Lib.index rest [sep])
    rw[hixe] at IX hix;clear hm hJ hp hone hk hR hsz hixe;gi_wp2_with (refine⟨trivial,?_⟩;gi_at_call 127;refine(callsIn_wide.2 IX.out).mono ?_;rintro e w' ⟨rfl,rfl⟩)
    refine HR.out.mono ?_;rintro e W' (⟨rfl,hJ',hk'⟩ | ⟨c,rfl,hp'⟩)
    · have HJ':=lH hJ';clear hJ' hk';gi_wp2
      go_end0
      exact .inl ⟨⟨_,rfl⟩,by rw[←HN.out];exact HJ'.out⟩
    · have HP':=lH hp';clear hp';gi_wp2
      exact⟨rfl,.inr ⟨c,rfl,HP'.out⟩⟩
  · obtain⟨i,hi⟩:=Int.eq_ofNat_of_zero_le (show 0≤Lib.index rest [sep] by omega);obtain⟨hlt,hsome⟩:=ZP sep rest i hi;have IX:=lH (show Calls Tryz.prog 127 #[.string (bytes rest),.string ⟨#[sep]⟩] wr fun e w'=>e=.returned (.int .i64 (i:Int))∧w'=wr by
     have:=Tryz.strings_Index (bytes rest) ⟨#[sep]⟩ m wr (by omega) hm;rw[show Lib.index (bytes rest).data.toList [sep]=(i:Int) from hi] at this;exact this)
    have hk:(jb sep s)[k]?=some (rest.take i):=by
     have:=congrArg (fun x=>x[0]?) hp;rw[hsome] at this;simpa using this.symm
    have HN:=lH (show jb sep (rest.drop (i+1))=(jb sep s).drop (k+1) by
     have:=congrArg (fun x=>x.drop 1) hp;rw[hsome] at this;simpa [List.drop_drop] using this)
    obtain⟨fn,tmps,assign,body,hy,hR⟩:=HY.out.yields k (rest.take i) wr hk hJ;have HR:=lH hR;have hfrag:(bytes rest).extract 0 i=bytes (rest.take i):=by
     apply Go.WideShapes.bytes_inj;simp[bytes,ByteArray.data_extract]
    have hrest:(bytes rest).extract (i+1) rest.length=bytes (rest.drop (i+1)):=by
     apply Go.WideShapes.bytes_inj;simp[bytes,ByteArray.data_extract,List.take_of_length_le]
    have Vc:=lH hrest;have US:=lH HY.out.store;clear hm hJ hp hsome hk hR hix hi hrest;have hi1:(i:Int)≤((bytes rest).size:Int):=by rw[hsz];omega
    gi_wp2_with (refine⟨trivial,?_⟩;gi_at_call 127;refine(callsIn_wide.2 IX.out).mono ?_;rintro e w' ⟨rfl,rfl⟩)
    refine HR.out.mono ?_;rintro e W' (⟨rfl,hJ',hk'⟩ | ⟨c,rfl,hp'⟩)
    · have HJ':=lH hJ';obtain⟨d1,y1⟩:=hk' b1 (.inl rfl);obtain⟨d2,y2⟩:=hk' b2 (.inr (.inl rfl));obtain⟨d3,y3⟩:=hk' b3 (.inr (.inr rfl));have e1:=d1.trans c1;have e2:=d2.trans c2;have e3:=d3.trans c3;have x2:=y2.trans z2;have hsz':=Vq.out;have hrest:=Vc.out;have hi2:((i:Int)+1)≤((bytes rest).size:Int):=by rw[hsz'];omega
      have hi3:((i:Int)+1).toNat=i+1:=by omega
      obtain⟨E1,E2,E3,X2,C2⟩:=lH5 e1 e2 e3 x2 c2;clear hJ' hk' d1 d2 d3 y1 y2 y3 c1 c2 c3 z2;gi_wp2
      go_roundw
      case rel =>
       exact⟨k+1,rest.drop (i+1),HN.out,by rw[List.length_drop];omega,
        by rw[World.cell?_setCell_other _ _ _ _ (by intro e;injection e with e;exact h12 e.symm)];exact E1.out,
        World.cell?_setCell_same' _ _ _ (by rw[E2.out];rfl),
        by rw[World.cell?_setCell_other _ _ _ _ (by intro e;injection e with e;exact h32 e.symm)];exact E3.out,
        by rw[World.frozen?_setCell];exact X2.out,US.out _ _ _ HJ'.out⟩
      case measure =>
       unfold Yc;rw[World.cell?_setCell_same' _ _ _ (by rw[E2.out];rfl),C2.out];simp[bytes,ByteArray.size];omega
    · have HP':=lH hp';clear hp';gi_wp2
      exact⟨rfl,.inr ⟨c,rfl,HP'.out⟩⟩
attribute [local go_sem] Oper.semAt_some
theorem z8 {fid:FuncId} {P:Program} {Q:Exit→Act→World→Prop} {a:Act} {w:World} {id:Nat} {c:Code} (h:zD fid P c (Exit.inBlock id Q) a w):zD fid P (Code.block id c) Q a w:=by
 intro b k cs hb hro;have h0:=StepsIn.one (I:=Machine.fenced P Fence.wide) (fenced_wide P _) (stepR_block (P:=P) (b:=b) (a:=a) (k:=k) (cs:=cs) (w:=w) (id:=id) (c:=c));obtain⟨e,a₁,w₁,hq,harr⟩:=h b (.inBlock id::k) cs hb hro
 cases e with
 | normal=>exact⟨.normal,a₁,w₁,hq,(h0.trans harr).trans (.one (fenced_wide P _) stepR_inBlock)⟩
 | exit id' =>
  by_cases hid:id'=id
  · simp only[Exit.inBlock,hid,if_true] at hq;exact⟨.normal,a₁,w₁,hq,h0.trans (harr.1 k (by simp[exitTo,hid]))⟩
  · simp only[Exit.inBlock,hid,if_false] at hq;have this:(id==id')=false:=by simp;exact fun h=>hid h.symm
    have hx:exitTo id' (.inBlock id::k)=exitTo id' k:=by simp[exitTo,this]
    exact⟨.exit id',a₁,w₁,hq,fun k' hk=>h0.trans (harr.1 k' (by rw[hx];exact hk)),
     fun hr' hk=>let ⟨k₁,h1,h2⟩:=harr.2 hr' (by rw[hx];exact hk);⟨k₁,h1,h0.trans h2⟩⟩
 | goto l =>
  have hx:gotoIn l (.inBlock id::k)=gotoIn l k:=by simp[gotoIn]
  exact⟨_,a₁,w₁,hq,fun k' hk=>h0.trans (harr.1 k' (by rw[hx];exact hk)),
   fun hr' hk=>let ⟨k₁,h1,h2⟩:=harr.2 hr' (by rw[hx];exact hk);⟨k₁,h1,h0.trans h2⟩⟩
 | ret=>exact⟨_,a₁,w₁,hq,.of_steps h0 harr⟩
 | panic ch=>exact⟨_,a₁,w₁,hq,.of_steps h0 harr⟩
 | outgrown=>exact⟨_,a₁,w₁,hq,.of_steps h0 harr⟩
def zT (fid:FuncId) (P:Program) (c:Code) (Q:Exit→Act→World→Prop):Nat→Act→World→Prop
 | 0,_,_=>False
 | m+1,a,w=>zD fid P c (Exit.then (zT fid P c Q m) Q) a w
theorem YN {fid:FuncId} {P:Program} {Q:Exit→Act→World→Prop} {a:Act} {w:World} {c:Code} (m:Nat) (h:zT fid P c Q m a w):zD fid P (Code.loop c) Q a w:=by
 intro b k cs hb hro;have key:∀m a w,zT fid P c Q m a w →
  ∃e a' w',Q e a' w'∧ArrivesIn (Machine.fenced P Fence.wide) P (lone (b.atR a (.code c::.inLoop c::k)) cs w) b k cs e a' w':=by
  intro m
  induction m with
  | zero=>intro a w h;exact h.elim
  | succ m ih =>
   intro a w h;obtain⟨e,a₁,w₁,hq,harr⟩:=h b (.inLoop c::k) cs hb hro
   cases e with
   | normal =>
    obtain⟨e₂,a₂,w₂,hq₂,harr₂⟩:=ih a₁ w₁ hq;exact⟨e₂,a₂,w₂,hq₂,.of_steps (StepsIn.trans harr (.one (fenced_wide P _) stepR_inLoop)) harr₂⟩
   | exit id=>exact⟨_,a₁,w₁,hq,.pass (x:=.inLoop c) rfl (fun _ _=>.inl (by simp)) harr⟩
   | goto l=>exact⟨_,a₁,w₁,hq,.pass (x:=.inLoop c) rfl (fun _ _=>.inl (by simp)) harr⟩
   | ret=>exact⟨_,a₁,w₁,hq,.pass (x:=.inLoop c) rfl (fun _ _=>.inl (by simp)) harr⟩
   | panic ch=>exact⟨_,a₁,w₁,hq,.pass (x:=.inLoop c) rfl (fun _ _=>.inl (by simp)) harr⟩
   | outgrown=>exact⟨_,a₁,w₁,hq,.pass (x:=.inLoop c) rfl (fun _ _=>.inl (by simp)) harr⟩
 obtain⟨e,a',w',hq,harr⟩:=key m a w h;exact⟨e,a',w',hq,.of_steps (.one (fenced_wide P _) stepR_loop) harr⟩
theorem RoundIn.inner {m m' l l2:Nat} {P:Program} {f:FuncId} {tmps:Array Value} {assign body:Code} {w:World} {R:Ending→World→Prop} (h:RoundIn Fence.wide m P l f tmps assign body w R):RoundIn (Fence.wide.inRound l2) m' P l f tmps assign body w R :=
 ⟨trivial,fun c cs _=>h.2 c cs (room_wide _)⟩
theorem qG (sep:UInt8) {g:Operand} {t:Tmp} {assign body:Code} {Q:Exit→Act→World→Prop} {a:Act} {w:World} {n fid:Nat} {fn:Func} (hfn:Tryz.prog.funcs[fid]?=some fn) (hn:2≤n)
 (b1 b2 b3:Nat) (hg:a.eval g=.func (.func 128) #[] #[.pointer (some ⟨b1,0,none⟩),.pointer (some ⟨b2,0,none⟩),.pointer (some ⟨b3,0,none⟩)])
 (s:List UInt8) (hs:s.length≤1000000) (h12:b1≠b2) (h32:b3≠b2) (hb1:b1<w.heap.size) (hb2:b2<w.heap.size) (hb3:b3<w.heap.size)
 (c1:w.cell? ⟨b1,0,none⟩=some (.string ⟨#[sep]⟩)) (c2:w.cell? ⟨b2,0,none⟩=some (.string (bytes s))) (c3:w.cell? ⟨b3,0,none⟩=some (.int .i64 0)) (z2:w.frozen? ⟨b2,0,none⟩=false)
 (I:Nat→World→Prop) (JP:List PanicEntry→World→Prop) (hI:∀k W W',I k W→St b2 w.heap.size W W'→I k W') (hE:∀k W,I k W→Env W) (h0:I 0 w) (a₁:ByteArray→Act)
 (hassign:∀(l:Nat) (x:ByteArray) (W:World) (K:Act→World→Prop),K (a₁ x) W →
   assign.wpIn (Fence.wide.inRound l) (n-1) Tryz.prog (Exit.then K (fun _ _ _=>False)) { tmps:=(#[t].zip #[Value.string x]).foldl (fun tt (p,v)=>tt.setIfInBounds p v) a.tmps,defers:=[] } W)
 (hbody:∀(l k:Nat) (p:List UInt8) (W:World),(jb sep s)[k]?=some p→I k W→w.heap.size+2≤W.heap.size→body.wpIn (Fence.wide.inRound l) (n-1) Tryz.prog (jce b1 b2 b3 w.heap.size k I JP W) (a₁ (bytes p)) W)
 (hdone:∀(W:World),I (jb sep s).length W→W.heap[w.heap.size]?=some (.deferred (some []))→Q .normal { a with defers:={ target:=.collected w.heap.size,args:=#[] }::a.defers } W)
 (hpanic:∀(c:List PanicEntry) (W:World),JP c W→W.heap[w.heap.size]?=some (.deferred (some []))→Q (.panic c) { a with defers:={ target:=.collected w.heap.size,args:=#[] }::a.defers } W) :
 zD fid Tryz.prog (Code.rangeFunc g #[t] assign body) Q a w:=by
 obtain⟨rec,hrec⟩:∃rec:LoopState→Option Code→Loop,rec=fun st pe=>{ state:=st,pending:=pe,fn:=fid,tmps:=a.tmps,params:=#[t],assign,body,defers:=w.heap.size }:=⟨_,rfl⟩
 obtain⟨W1,hW1⟩:=eX ((w.alloc (.deferred (some []))).alloc (.loop (rec .ready none)))
 have hL1:W1.heap[w.heap.size+1]?=some (.loop (rec .ready none)):=by
  rw[←hW1];have:=World.alloc_heap_new (w.alloc (.deferred (some []))) (.loop (rec .ready none));rwa [World.size_alloc] at this
 have hK1:W1.heap[w.heap.size]?=some (.deferred (some [])):=by
  rw[←hW1];exact(Below.heap_alloc _ _ _ (by simp)).trans (World.alloc_heap_new w _)
 have hS1:St b2 w.heap.size w W1:=by rw[←hW1];exact St.begin b2 w _ _
 have hB1:Below w.heap.size w W1:=by rw[←hW1];exact(ja w _).trans (ja _ _)
 refine zU (n:=n) (l:=w.heap.size+1) (mark:=[{ target:=.collected w.heap.size,args:=#[] }]) (w₁:=W1) (d:={ target:=.fn (.func 128) #[.pointer (some ⟨b1,0,none⟩),.pointer (some ⟨b2,0,none⟩),.pointer (some ⟨b3,0,none⟩)],args:=#[.func (.yield (w.heap.size+1)) #[] #[]] })
  (f:=128) (args:=#[.func (.yield (w.heap.size+1)) #[] #[],.pointer (some ⟨b1,0,none⟩),.pointer (some ⟨b2,0,none⟩),.pointer (some ⟨b3,0,none⟩)]) ?_ ?_ ?_ ?_
 · rw[←hW1,hrec];exact run_enterLoop_outer _ _ _ _ _
 · simp only[resolve,hg];simp[go_sem]
 · have eg:=enters_of (P:=Tryz.prog) Tryz.func128 (by kernel_rfl) rfl;simp[invoke,go_sem,eg]
 · refine(qA sep n (by omega) (w.heap.size+1) b1 b2 b3 s hs
    (fun k W=>I k W∧W.heap[w.heap.size+1]?=some (.loop (rec .ready none))∧W.heap[w.heap.size]?=some (.deferred (some [])))
    (fun c W=>JP c W∧W.heap[w.heap.size]?=some (.deferred (some [])))
    ⟨?_,?_,?_,?_⟩ h12 h32 W1 ((hB1.cell (p:=⟨b1,0,none⟩) hb1).trans c1) ((hB1.cell (p:=⟨b2,0,none⟩) hb2).trans c2) ((hB1.cell (p:=⟨b3,0,none⟩) hb3).trans c3)
    ((hB1.frozen (p:=⟨b2,0,none⟩) hb2).trans z2) ⟨hI 0 w W1 h0 hS1,hL1,hK1⟩).mono ?_
   · rintro k p W hp ⟨hi,hl,hk⟩;have hlt:w.heap.size+1<W.heap.size:=(Array.getElem?_eq_some_iff.1 hl).1;have hy:=run_yield (P:=Tryz.prog) (args:=#[.string (bytes p)]) hl (by rw[hrec];rfl);rw[hrec] at hy;refine⟨fid,_,assign,body,hy,zc trivial hfn ?_⟩;refine hassign _ (bytes p) W _ ?_;refine⟨_,run_beginRound hl (by rw[hrec]),?_⟩;have hl2:(W.putObj (w.heap.size+1) (.loop { rec .ready none with state:=.busy })).heap[w.heap.size+1]?=some (.loop { rec .ready none with state:=.busy }):=World.putObj_heap_same hlt;have hk2:(W.putObj (w.heap.size+1) (.loop { rec .ready none with state:=.busy })).heap[w.heap.size]?=some (.deferred (some [])):=(World.putObj_heap_other (by omega)).trans hk;refine wpIn_mono (hbody _ k p _ hp (hI k _ _ hi (St.put W _)) (by simp;omega)) ?_;rintro e a3 W3 hp3
     cases e with
     | normal =>
      obtain⟨hk3,hi3⟩:=hp3;have hl3:=(hk3 (w.heap.size+1) (by simp)).trans hl2;have hr:=run_endRound (P:=Tryz.prog) none hl3;refine⟨_,_,hr,.inl ⟨rfl,⟨hI _ _ _ hi3 (St.put W3 _),?_,?_⟩,?_⟩⟩
      · rw[World.putObj_heap_same (Array.getElem?_eq_some_iff.1 hl3).1,hrec];rfl
      · exact((World.putObj_heap_other (by omega)).trans (hk3 w.heap.size (by simp))).trans hk2
      · refine ZL fun b hb=>?_;have hbl:b≠w.heap.size+1:=by rcases hb with h | h | h<;>omega
        exact((World.putObj_heap_other hbl).trans (hk3 b (by rcases hb with h | h | h<;>simp[h]))).trans (World.putObj_heap_other hbl)
     | panic c =>
      obtain⟨hd,hk3,hj⟩:=hp3;exact⟨hd,.inr ⟨c,rfl,hj,(hk3 w.heap.size (by simp)).trans hk2⟩⟩
     | ret=>exact hp3.elim
     | exit id=>exact hp3.elim
     | goto t=>exact hp3.elim
     | outgrown=>exact hp3.elim
   · rintro k W x ⟨hi,hl,hk⟩;exact⟨hI _ _ _ hi (St.setCell W _),(Below.heap_setCell W ⟨b2,0,none⟩ _ _ (by simp;omega)).trans hl,(Below.heap_setCell W ⟨b2,0,none⟩ _ _ (by simp;omega)).trans hk⟩
   · rintro k W m ⟨hi,hl,hk⟩;exact⟨hI _ _ _ hi (St.drewN W _),hl,hk⟩
   · rintro k W ⟨hi,_,_⟩;exact(hE k W hi).most
   · rintro e W2 (⟨⟨v,rfl⟩,hi,hl,hk⟩ | ⟨c,rfl,hj,hk⟩)
     · exact⟨_,run_endLoop (P:=Tryz.prog) hl (by rw[hrec];simp) |>.trans (by rw[hrec]),hdone _ (hI _ _ _ hi (St.put W2 _)) ((World.putObj_heap_other (by omega)).trans hk)⟩
     · exact hpanic c W2 hj hk
end Go.Proofs.YtnfojaidmnccoaaGreatDoor
